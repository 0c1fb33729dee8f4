/- The contract of pack.List at numbers, with the function 'number' of the statements. -/
import Derived.Test.YtoijipahcpdhcaaNumK
namespace Go.Proofs.Ytoijipahcpdhcaa
open Go.RowKit Go.Lib Plain

/-- a row of numbers that came in: all below block B -/
def IntsAt (w : World) (B : Nat) (A : Option Addr) (zs : List Int) : Prop :=
  ∀ i, i < zs.length → ∃ b off, A = some ⟨b, off, none⟩ ∧ b < B ∧ w.cell? ⟨b, off + i, none⟩ = some (.int .i64 (zs.getD i 0))
theorem IntsAt.keep {w w' : World} {B : Nat} {A : Option Addr} {zs : List Int} (h : IntsAt w B A zs) (hb : ∀ b, b < B → w'.heap[b]? = w.heap[b]?) : IntsAt w' B A zs := by
  intro i hi
  obtain ⟨b, off, e, hlt, hc⟩ := h i hi
  exact ⟨b, off, e, hlt, (World.cell?_of_block (a := ⟨b, off + i, none⟩) (hb b hlt)).trans hc⟩
def okL (zs : List Int) : Bool := zs.all (fit 1)
/-- the bytes behind List -/
def listd (zs : List Int) (bs : List UInt8) : List UInt8 := if okL zs = true then bs ++ num 2 zs.length ++ nums 1 zs else bs
def fnum : Value := .func (.func 25) #[] #[]

theorem run_eql_func {P : Program} {t : TypeId} {a b : Array TypeId} {c : Bool} (hp : P.underlying t = some (.func a b c)) (f : Fn) (x y : Array Value) (w : World) : (binOp .eql t (.func f x y) .nilFunc).run P w = .ok (.bool false) w := by
  have h : ∀ d : Nat, (Op.equalIn (d + 1) t (.func f x y) .nilFunc).run P w = .ok false w := fun d => by simp [Op.equalIn, run_underlying hp]
  simp only [binOp]
  simp [Op.equal, Op.maxDepth, h 9999]
theorem run_eql_nilFunc {P : Program} {t : TypeId} {a b : Array TypeId} {c : Bool} (hp : P.underlying t = some (.func a b c)) (w : World) : (binOp .eql t .nilFunc .nilFunc).run P w = .ok (.bool true) w := by
  have h : ∀ d : Nat, (Op.equalIn (d + 1) t .nilFunc .nilFunc).run P w = .ok true w := fun d => by simp [Op.equalIn, run_underlying hp]
  simp only [binOp]
  simp [Op.equal, Op.maxDepth, h 9999]

/-- within List: the Out, the old slice, and the three variables that the closure holds -/
structure LS (w wx : World) (B p : Nat) (v v1 : Value) (bs bq : List UInt8) : Prop where
  out : Out wx B p v1 bq
  old : Own wx B v bs
  o : At wx w.heap.size 24 #[.pointer (some ⟨p, 0, none⟩)]
  d : At wx (w.heap.size + 1) 4 #[.bool false]
  b : At wx (w.heap.size + 1 + 1) 27 #[v]
  chg : Chg w wx (outSet p v)
  lies : Lies w v v1
  lp : p < w.heap.size
theorem LS.alloc {w wx : World} {B p : Nat} {v v1 : Value} {bs bq : List UInt8} (h : LS w wx B p v v1 bs bq) (o : Obj) : LS w (wx.alloc o) B p v v1 bs bq :=
  ⟨h.out.alloc o, World.ownsRow.alloc h.old o, h.o.alloc o, h.d.alloc o, h.b.alloc o, h.chg.alloc o, h.lies, h.lp⟩
theorem LS.write {w wx w' : World} {B p : Nat} {v v1 : Value} {bs pre bq : List UInt8} (h : LS w wx B p v v1 bs (bs ++ pre)) (hw : Wrote wx B p v1 bq w') (hk : Own w' B v1 (bs ++ pre)) : ∃ v2, LS w w' B p v v2 bs bq := by
  obtain ⟨v2, ho, hc, hl⟩ := hw
  refine ⟨v2, ho, own_prefix2 (p := p) h.old h.out.own hc (own_ne h.old h.out.at_ (by decide)) hk, h.o.chg hc (h.out.off_at h.o (by decide) (by decide)), h.d.chg hc (h.out.off_at h.d (by decide) (by decide)), h.b.chg hc ?_, h.chg.trans hc (fun _ hk hs => outSet_lies h.lies hk hs), h.lies.trans hl h.chg.size, h.lp⟩
  rintro (e | e)
  · have := h.lp; omega
  · exact own_ne h.out.own h.b (by decide) e
theorem nums_one' (wd n : Int) : nums wd [n] = num wd n := by simp [nums]
theorem okL_nums (zs : List Int) : okNums 1 zs = okL zs := by
  unfold okNums okL
  have : wide 1 = true := by decide
  rw [this]; rfl

set_option maxRecDepth 100000 in
set_option maxHeartbeats 3200000 in
theorem list_any (B p cap : Nat) (A : Option Addr) (v : Value) (bs : List UInt8) (zs : List Int) (w : World) (ho : Out w B p v bs) (hB : B ≤ w.heap.size) (hz : IntsAt w B A zs) (hzi : ∀ z ∈ zs, inI64 z) (hn : zs.length ≤ 300) (hl : bs.length ≤ 100000000) :
    Calls Try.prog 24 #[.pointer (some ⟨p, 0, none⟩), .slice A zs.length cap, fnum] w fun e w' => e = .returned (.bool (okL zs)) ∧ Wrote w B p v (listd zs bs) w' := by
  have hmf : ∀ (fn : Fn) (first cap : Array Value) (w : World), (Instr.makeFunc fn first cap).run Try.prog w = .ok (.func fn first cap) w := fun _ _ _ _ => rfl
  have c0 : w.cell? ⟨p, 0, none⟩ = some v := by rw [ho.at_.cell]; rfl
  have lp := ho.at_.lt
  have hst : (store ⟨w.heap.size + 1 + 1, 0, none⟩ v).run Try.prog (((w.alloc (.cells #[.pointer (some ⟨p, 0, none⟩)] 24)).alloc (.cells #[.bool false] 4)).alloc (.cells #[.slice none 0 0] 27)) = .ok () (((w.alloc (.cells #[.pointer (some ⟨p, 0, none⟩)] 24)).alloc (.cells #[.bool false] 4)).alloc (.cells #[v] 27)) := by
    rcases ho.own.2 with ⟨rfl, _⟩ | ⟨g, c, cur, rfl, _⟩ <;> simp [go_sem]
  have HO := Lib.hid ho; have HZ := Lib.hid hz; have HZI := Lib.hid hzi; clear ho hz hzi
  have hfe := run_eql_func Try.underlying48 (.func 25) #[] #[]
  unfold fnum
  go_enter_defers Try.func24, Try.ntmps24
  go_wp2_with fail
  have ls0 : LS w ((((w.alloc (.cells #[.pointer (some ⟨p, 0, none⟩)] 24)).alloc (.cells #[.bool false] 4)).alloc (.cells #[v] 27)).alloc (.cells #[.int .i64 zs.length] 3)) B p v v bs bs := by
    refine ⟨(((HO.out.alloc _).alloc _).alloc _).alloc _, World.ownsRow.alloc (World.ownsRow.alloc (World.ownsRow.alloc (World.ownsRow.alloc HO.out.own _) _) _) _, (((At.new w 24 _).alloc _).alloc _).alloc _, ?_, ?_, ((((Chg.refl w _).alloc _).alloc _).alloc _).alloc _, Lies.refl _ _, lp⟩
    · have := ((At.new (w.alloc (.cells #[.pointer (some ⟨p, 0, none⟩)] 24)) 4 #[.bool false]).alloc (.cells #[v] 27)).alloc (.cells #[.int .i64 zs.length] 3)
      simpa using this
    · have := (At.new ((w.alloc (.cells #[.pointer (some ⟨p, 0, none⟩)] 24)).alloc (.cells #[.bool false] 4)) 27 #[v]).alloc (.cells #[.int .i64 zs.length] 3)
      simpa using this
  refine (num_one_keep B p (w.heap.size + 1 + 1 + 1) 1 v bs 2 zs.length _ ls0.out (by simp; omega) (by simp [go_sem]) ⟨by omega, by omega⟩ (by omega) (by
    rintro (e | e)
    · omega
    · have := (HO.out.own.lt _ e).2; omega)).mono ?_
  rintro e w5 ⟨rfl, hw5, hk5⟩
  have hok2 : okNums 2 [(zs.length : Int)] = true := by rw [ok_len]; simp; omega
  rw [hok2]
  rw [numd_yes _ hok2, nums_one'] at hw5
  obtain ⟨v5, ls5⟩ := LS.write (pre := []) (by rw [List.append_nil]; exact ls0) hw5 (by rw [List.append_nil]; exact hk5)
  have LS5 := Lib.hid ls5; clear ls5 ls0 hw5 hk5 hok2 hst c0
  go_wp2_with fail
  go_loopg [28] zs.length (fun g s28 wx => ∃ (j : Nat) (v1 : Value), j ≤ zs.length ∧ g = zs.length - j ∧ s28 = .int .i64 (j : Int) ∧ (zs.take j).all (fit 1) = true ∧ LS w wx B p v v1 bs (bs ++ num 2 zs.length ++ nums 1 (zs.take j)))
  case atStart => exact ⟨0, v5, Nat.zero_le _, rfl, rfl, by simp, by simpa [nums] using LS5.out⟩
  case round =>
    obtain ⟨j, v1, hj, hg, rfl, hall, hls⟩ := hrel
    have HG := Lib.hid hg; have HALL := Lib.hid hall; have HLS := Lib.hid hls; clear hg hall hls LS5
    have co : wr.cell? ⟨w.heap.size, 0, none⟩ = some (.pointer (some ⟨p, 0, none⟩)) := by rw [HLS.out.o.cell]; rfl
    have cd : wr.cell? ⟨w.heap.size + 1, 0, none⟩ = some (.bool false) := by rw [HLS.out.d.cell]; rfl
    have fd := HLS.out.d.frozen 0
    by_cases hlt : j < zs.length
    · obtain ⟨b, off, hAe, hb, hcell0⟩ := HZ.out j hlt
      subst hAe
      have hcell : wr.cell? ⟨b, off + j, none⟩ = some (.int .i64 (zs.getD j 0)) := by
        rw [← hcell0]
        refine World.cell?_of_block (HLS.out.chg.block b (by omega) ?_)
        rintro (e | e)
        · have := HO.out.le; omega
        · have := (HO.out.own.lt _ e).1; omega
      have hm : zs.getD j 0 ∈ zs := by simp [hlt]
      have hin := HZI.out _ hm
      have htk : (zs.take (j + 1)).all (fit 1) = fit 1 (zs.getD j 0) := by
        rw [List.take_succ_eq_append_getElem hlt, List.all_append, HALL.out]; simp [hlt]
      have hst := nums_take 1 zs j hlt
      have HTK := Lib.hid htk; have HST := Lib.hid hst; have HM := Lib.hid hm; have HIN := Lib.hid hin; clear htk hst hm hin hcell0
      generalize zs.getD j 0 = x at hcell HTK HST HM HIN
      have hlen : (bs ++ num 2 (zs.length : Int) ++ nums 1 (zs.take j)).length ≤ 200000000 := by
        rw [List.length_append, List.length_append, num_length, nums_length, List.length_take]
        have : (2 : Int).toNat = 2 := rfl
        have e1 : (1 : Int).toNat = 1 := rfl
        rw [e1]
        omega
      have HLEN := Lib.hid hlen; clear hlen
      have hzr : B ≤ wr.heap.size := by have := HLS.out.chg.size; omega
      go_wp2_with fail
      refine (number25_keep B p v1 _ x _ HLS.out.out hzr HIN.out (by have := HLEN.out; omega)).mono ?_
      rintro e w6 ⟨rfl, hw6, hk6⟩
      by_cases hf : okNums 1 [x] = true
      · rw [numd_yes _ hf, nums_one'] at hw6
        obtain ⟨v6, ls6⟩ := LS.write (pre := num 2 zs.length ++ nums 1 (zs.take j)) (by rw [← List.append_assoc]; exact HLS.out) hw6 (by rw [← List.append_assoc]; exact hk6)
        have LS6 := Lib.hid ls6; clear ls6 hw6 hk6
        rw [hf]
        have hfx : fit 1 x = true := by have := hf; rw [okL_nums] at this; simpa [okL] using this
        have HFX := Lib.hid hfx; clear hfx hf
        go_wp2_with fail
        go_roundg (zs.length - (j + 1))
        case measure => have := HG.out; omega
        case rel => exact ⟨j + 1, v6, by omega, rfl, by go_num, by rw [HTK.out]; exact HFX.out, by rw [HST.out, ← List.append_assoc]; exact LS6.out⟩
      · have hf' : okNums 1 [x] = false := by simpa using hf
        rw [numd_no _ hf'] at hw6
        obtain ⟨v6, ls6⟩ := LS.write (pre := num 2 zs.length ++ nums 1 (zs.take j)) (by rw [← List.append_assoc]; exact HLS.out) hw6 (by rw [← List.append_assoc]; exact hk6)
        have LS6 := Lib.hid ls6; clear ls6 hw6 hk6
        have hbad : okL zs = false := by
          unfold okL; rw [List.all_eq_false]
          exact ⟨x, HM.out, fun h9 => hf (by rw [okL_nums]; simpa [okL] using h9)⟩
        rw [hf']
        have HBAD := Lib.hid hbad; clear hbad hf hf' co cd fd
        have cd : w6.cell? ⟨w.heap.size + 1, 0, none⟩ = some (.bool false) := by rw [LS6.out.d.cell]; rfl
        have fd := LS6.out.d.frozen 0
        go_wp2_with fail
        obtain ⟨w7, h7⟩ : ∃ w7, w6.setCell ⟨w.heap.size + 1, 0, none⟩ (.bool false) = w7 := ⟨_, rfl⟩
        rw [h7]
        have d7 : At w7 (w.heap.size + 1) 4 #[.bool false] := by rw [← h7]; simpa using LS6.out.d.set 0 (.bool false)
        have o7 : At w7 w.heap.size 24 #[.pointer (some ⟨p, 0, none⟩)] := by rw [← h7]; exact LS6.out.o.far (p := ⟨w.heap.size + 1, 0, none⟩) (by simp) _
        have b7 : At w7 (w.heap.size + 1 + 1) 27 #[v] := by rw [← h7]; exact LS6.out.b.far (p := ⟨w.heap.size + 1, 0, none⟩) (by simp) _
        have p7 : At w7 p 27 #[v6] := by rw [← h7]; exact LS6.out.out.at_.far (p := ⟨w.heap.size + 1, 0, none⟩) (by simp; omega) _
        have k7 : Own w7 B v bs := by rw [← h7]; exact ownsRow_setCell_other LS6.out.old (a := ⟨w.heap.size + 1, 0, none⟩) (own_ne LS6.out.old LS6.out.d (by decide)) _
        have g7 : Chg w w7 (outSet p v) := by rw [← h7]; exact LS6.out.chg.set (p := ⟨w.heap.size + 1, 0, none⟩) (fun h9 => by simp at h9; omega) _
        clear h7
        refine leaves_cons (f := 34) (args := #[.pointer (some ⟨w.heap.size + 1, 0, none⟩), .pointer (some ⟨w.heap.size + 1 + 1, 0, none⟩), .pointer (some ⟨w.heap.size, 0, none⟩)]) (by simp) (by simp [go_sem]) ?_
        refine (list1_undo (w.heap.size + 1) (w.heap.size + 1 + 1) w.heap.size p v v6 w7 (by rw [d7.cell]; rfl) (by rw [b7.cell]; rfl) (by rw [o7.cell]; rfl) (by rw [p7.cell]; rfl) (p7.frozen 0) (by
          rcases k7.2 with ⟨rfl, _⟩ | ⟨g, c, cur, rfl, _⟩
          · exact .inr rfl
          · exact .inl ⟨g, _, c, rfl⟩)).mono ?_
        rintro e u' w8 ⟨rfl, rfl, rfl⟩
        have d8 : At (w7.setCell ⟨p, 0, none⟩ v) (w.heap.size + 1) 4 #[.bool false] := d7.far (p := ⟨p, 0, none⟩) (by simp; omega) _
        have cd8 : (w7.setCell ⟨p, 0, none⟩ v).cell? ⟨w.heap.size + 1, 0, none⟩ = some (.bool false) := by rw [d8.cell]; rfl
        have fin : Wrote w B p v (listd zs bs) (w7.setCell ⟨p, 0, none⟩ v) := by
          unfold listd; rw [if_neg (by rw [HBAD.out]; decide)]
          exact ⟨v, ⟨by simpa using p7.set 0 v, own_setCell k7 p7, HO.out.le⟩, g7.set (p := ⟨p, 0, none⟩) (fun _ => .inl rfl) _, Lies.refl _ _⟩
        have FIN := Lib.hid fin; clear fin d8 d7 o7 b7 p7 k7 g7
        rw [HBAD.out]
        simp [Leaves, settle, results, Try.results24, go_sem, cd8]
        exact FIN.out
    · obtain rfl : j = zs.length := by omega
      have hgood : okL zs = true := by have := HALL.out; rw [List.take_of_length_le (Nat.le_refl _)] at this; exact this
      have HGOOD := Lib.hid hgood; clear hgood
      go_wp2_with fail
      obtain ⟨w7, h7⟩ : ∃ w7, wr.setCell ⟨w.heap.size + 1, 0, none⟩ (.bool true) = w7 := ⟨_, rfl⟩
      rw [h7]
      have d7 : At w7 (w.heap.size + 1) 4 #[.bool true] := by rw [← h7]; simpa using HLS.out.d.set 0 (.bool true)
      have out7 : Out w7 B p v1 (listd zs bs) := by
        rw [← h7]
        have e : listd zs bs = bs ++ num 2 zs.length ++ nums 1 (zs.take zs.length) := by unfold listd; rw [if_pos HGOOD.out, List.take_of_length_le (Nat.le_refl _)]
        rw [e]
        exact ⟨HLS.out.out.at_.far (p := ⟨w.heap.size + 1, 0, none⟩) (by simp; omega) _, ownsRow_setCell_other HLS.out.out.own (a := ⟨w.heap.size + 1, 0, none⟩) (own_ne HLS.out.out.own HLS.out.d (by decide)) _, HO.out.le⟩
      have g7 : Chg w w7 (outSet p v) := by rw [← h7]; exact HLS.out.chg.set (p := ⟨w.heap.size + 1, 0, none⟩) (fun h9 => by simp at h9; omega) _
      clear h7
      refine leaves_cons (f := 34) (args := #[.pointer (some ⟨w.heap.size + 1, 0, none⟩), .pointer (some ⟨w.heap.size + 1 + 1, 0, none⟩), .pointer (some ⟨w.heap.size, 0, none⟩)]) (by simp) (by simp [go_sem]) ?_
      refine (list1_done (w.heap.size + 1) (w.heap.size + 1 + 1) w.heap.size w7 (by rw [d7.cell]; rfl)).mono ?_
      rintro e u' w8 ⟨rfl, rfl, rfl⟩
      have cd8 : w8.cell? ⟨w.heap.size + 1, 0, none⟩ = some (.bool true) := by rw [d7.cell]; rfl
      have fin : Wrote w B p v (listd zs bs) w8 := ⟨v1, out7, g7, HLS.out.lies⟩
      have FIN := Lib.hid fin; clear fin d7 out7 g7
      rw [HGOOD.out]
      simp [Leaves, settle, results, Try.results24, go_sem, cd8]
      exact FIN.out
set_option maxHeartbeats 400000 in
theorem list_nilo (L F : Value) (w : World) : Calls Try.prog 24 #[.pointer none, L, F] w fun e w' => e = .returned (.bool false) ∧ Below w.heap.size w w' := by
  go_enter_defers Try.func24, Try.ntmps24
  go_wp2_with fail
  simp [bodyPostD, Leaves, results, Try.results24, go_sem]
  exact ((Below.refl _ _).alloc (Nat.le_refl _) _).alloc (by simp) _
set_option maxHeartbeats 400000 in
theorem list_nilf (p : Nat) (L : Value) (w : World) : Calls Try.prog 24 #[.pointer (some ⟨p, 0, none⟩), L, .nilFunc] w fun e w' => e = .returned (.bool false) ∧ Below w.heap.size w w' := by
  have hfe := run_eql_nilFunc (P := Try.prog) Try.underlying48
  go_enter_defers Try.func24, Try.ntmps24
  go_wp2_with fail
  simp [bodyPostD, Leaves, results, Try.results24, go_sem]
  exact ((Below.refl _ _).alloc (Nat.le_refl _) _).alloc (by simp) _
end Go.Proofs.Ytoijipahcpdhcaa
