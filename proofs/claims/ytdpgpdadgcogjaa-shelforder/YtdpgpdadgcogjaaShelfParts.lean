/- ShelfParts: the walk. -/
import Derived.Test.YtdpgpdadgcogjaaShelfStays
import Derived.Test.YtdpgpdadgcogjaaShF
import Derived.Deep.CutRange
namespace Go.Proofs.Ytdpgpdadgcogjaa
open Go.RowKit Go.Lib Plain
set_option linter.unusedVariables false

theorem part_length (q : Int → Bool) : ∀ l : List KV, (l.filter (fun x => q x.2)).length + (l.filter (fun x => !q x.2)).length = l.length
  | [] => rfl
  | x :: l => by
    have ih := part_length q l
    cases h : q x.2
    · rw [List.filter_cons_of_neg (by simp [h]), List.filter_cons_of_pos (by simp [h]), List.length_cons, List.length_cons]; omega
    · rw [List.filter_cons_of_pos (by simp [h]), List.filter_cons_of_neg (by simp [h]), List.length_cons, List.length_cons]; omega
theorem get_filter {l : List KV} (hr : Rise l) {x : KV} (hx : x ∈ l) (q : Int → Bool) : (get x.1 (l.filter (fun y => q y.2))).isSome = q x.2 := by
  cases h : q x.2
  · rw [get_none (fun y hy e => ?_)]
    · rfl
    · obtain ⟨h1, h2⟩ := List.mem_filter.1 hy
      have e1 := get_of_mem hr (k := y.1) (v := y.2) h1
      have e2 := get_of_mem hr (k := x.1) (v := x.2) hx
      rw [e, e2] at e1
      injection e1 with e1
      rw [← e1, h] at h2
      cases h2
  · rw [get_of_mem (hr.filter _) (k := x.1) (v := x.2) (List.mem_filter.2 ⟨hx, h⟩)]
    rfl
theorem put_del {l : List KV} (hr : Rise l) (k : ByteArray) (x : Int) : decide (del k (put k x l) = l) = !(get k l).isSome := by
  cases h : get k l with
  | none =>
    simp only [Option.isSome, Bool.not_false, decide_eq_true_eq]
    refine rise_ext hr.put.del hr (fun j => ?_)
    rw [get_del, get_put hr]
    by_cases e : j = k
    · rw [if_pos e, e, h]
    · rw [if_neg e, if_neg e]
  | some y =>
    simp only [Option.isSome, Bool.not_true, decide_eq_false_iff_not]
    intro e
    have h1 : get k (del k (put k x l)) = none := by rw [get_del, if_pos rfl]
    rw [e, h] at h1
    cases h1
theorem Own.slice {α : Type} {E : El α} {w0 : World} {B : Nat} {sv : Value} {xs : List α} (h : Own E w0 B sv xs) : ∃ O cap, sv = .slice O xs.length cap := by
  rcases h.form with ⟨rfl, rfl⟩ | ⟨g, cap, rfl, _⟩
  · exact ⟨_, _, rfl⟩
  · exact ⟨_, _, rfl⟩
/-- a pair of a row that a call owns -/
theorem Own.pair {E : El KV} (hE : E.enc = fun x => [.string x.1, .int .i64 x.2]) (hs : E.s = 2) {w : World} {B j : Nat} {v : Value} {l : List KV} (h : Own E w B v l) (hj : j < l.length) :
    ∃ g cap, v = .slice (some ⟨g, 0, none⟩) l.length cap ∧ g < w.heap.size ∧ w.cell? ⟨g, j * 2, none⟩ = some (.string l[j].1) ∧ w.cell? ⟨g, j * 2 + 1, none⟩ = some (.int .i64 l[j].2) := by
  rcases h.form with ⟨rfl, h0⟩ | ⟨g, cap, rfl, hc, _, hlt⟩
  · subst h0; simp at hj
  · obtain ⟨O, c, hv, _, hr⟩ := h.rd
    injection hv with e1 e2 e3
    obtain ⟨b, off, e, hb, k⟩ := hr j l[j] (List.getElem?_eq_getElem hj)
    rw [← e1] at e
    injection e with e
    injection e with f1 f2
    subst f1; subst f2
    have k0 := k 0 (.string l[j].1) (by rw [hE]; rfl)
    have k1 := k 1 (.int .i64 l[j].2) (by rw [hE]; rfl)
    rw [hs, Nat.zero_add, Nat.add_zero] at k0
    rw [hs, Nat.zero_add] at k1
    exact ⟨g, cap, rfl, hlt, k0, k1⟩
set_option maxRecDepth 100000 in
set_option maxHeartbeats 6400000 in
theorem shelfParts_walk (z : Int) (A : Option Addr) (ca : Nat) (fs : List Deed) (by_ : Int) (k : ByteArray) (x : Int) (w : World) (hz : inI64 z) (_ : ∀ y ∈ fs, y.Ok) (hA : ActsAt w w.heap.size A fs) (hl : fs.length ≤ maxLen) (_ : inI64 by_) (hks : k.size ≤ maxLen) (_ : inI64 x) :
    Calls Try.prog 6 #[.int .i64 z, .slice A fs.length ca, .int .i64 by_, .string k, .int .i64 x] w fun e w' => e = .returned (.bool true) ∧ Below w.heap.size w w' := by
  unfold maxLen at hl hks
  by_cases g1 : 40 < fs.length
  · clear hA
    go_enter Try.func6, Try.ntmps6
    go_wp2_with (go_at_call 7; refine (awake_any _).mono ?_; rintro e w' ⟨rfl, hg⟩)
    go_ret
    exact ⟨rfl, hg⟩
  by_cases g2 : 10 < k.size
  · clear hA
    go_enter Try.func6, Try.ntmps6
    go_wp2_with (go_at_call 7; refine (awake_any _).mono ?_; rintro e w' ⟨rfl, hg⟩)
    go_ret
    exact ⟨rfl, hg⟩
  clear hl hks
  have hmf : ∀ (fn : Fn) (first cap : Array Value) (w : World), (Instr.makeFunc fn first cap).run Try.prog w = .ok (.func fn first cap) w := fun _ _ _ _ => rfl
  obtain ⟨r, hk1, hk2, hk0⟩ := room_of z 1 40 (by omega) (by omega) (by omega)
  have hk : wrap64 (1 + wrap64 ((IntKind.u64.wrap z).tmod 40)) = (r : Int) := hk0
  have HK := Lib.hid hk; clear hk hk0
  have hby : wrap64 (2 + wrap64 ((IntKind.u64.wrap by_).tmod 3)) = byOf by_ := rfl
  have HBY := Lib.hid hby; clear hby
  have hbi := byOf_in by_
  have CIS := Lib.hid (fun W k y => is_any (byOf by_) y k hbi.1 hbi.2 W)
  have CNOT := Lib.hid (fun W k y => not_any (byOf by_) y k hbi.1 hbi.2 W)
  clear hbi
  generalize byOf by_ = q at *
  have CN := Lib.hid (fun W => new_any (r : Int) W)
  rw [rm_of hk1 (by omega)] at CN
  have CF := Lib.hid (fun W v l (hb : Below w.heap.size w W) (hs : SAt W v l r) => does_any (cap := ca) (B := 0) hs (fun i hi => (by
    obtain ⟨b, off, e, hlt, rr⟩ := (hA.keep hb) i hi
    exact ⟨b, off, e, Nat.lt_of_lt_of_le hlt hb.size, rr⟩)) (by omega))
  clear hA
  generalize hfs : deeds r [] fs = F at *
  have HFS := Lib.hid hfs; clear hfs
  go_enter Try.func6, Try.ntmps6
  go_wp2_with (go_at_call 7; refine (awake_any _).mono ?_; rintro e w0 ⟨rfl, hb0⟩)
  rw [HK.out]
  refine (CN.out _).mono ?_
  rintro e w1 ⟨v1, rfl, s1, d1⟩
  have b1 := hb0.trans (d1.mono hb0.size)
  obtain ⟨o1, rfl⟩ := s1.form
  go_wp2_with fail
  refine (CF.out _ _ _ b1 s1).mono ?_
  rintro e w2 ⟨v2, rfl, s2, d2⟩
  rw [HFS.out] at s2
  have b2 := b1.trans (d2.mono b1.size)
  obtain ⟨o2, rfl⟩ := s2.form
  have hle := s2.le
  have HLE := Lib.hid (show F.length ≤ 40 ∧ r ≤ 65536 from ⟨by omega, hle.2⟩)
  have HRI := Lib.hid s2.rise
  clear hle
  have hv := Var.new s2
  have bn := below_new w2 (.cells #[.pointer o2, .int .i64 (F.length : Int), .int .i64 (r : Int)] 26)
  have bn2 := bn.trans ((below_new (w2.alloc (.cells #[.pointer o2, .int .i64 (F.length : Int), .int .i64 (r : Int)] 26)) (.cells #[.int .i64 q] 41)).mono bn.size)
  have b3 := b2.trans (bn2.mono b2.size)
  have hp : At ((w2.alloc (.cells #[.pointer o2, .int .i64 (F.length : Int), .int .i64 (r : Int)] 26)).alloc (.cells #[.int .i64 q] 41)) (w2.heap.size + 1) 41 #[.int .i64 q] := by
    have := At.new (w2.alloc (.cells #[.pointer o2, .int .i64 (F.length : Int), .int .i64 (r : Int)] 26)) 41 #[.int .i64 q]
    have e : (w2.alloc (.cells #[.pointer o2, .int .i64 (F.length : Int), .int .i64 (r : Int)] 26)).heap.size = w2.heap.size + 1 := by simp
    rwa [e] at this
  have VS := Lib.hid (hv.step (below_new _ (.cells #[.int .i64 q] 41))); have B3 := Lib.hid b3; have PT := Lib.hid hp
  clear hb0 b1 s1 d1 s2 d2 b2 hv bn bn2 b3 hp
  go_wp2_with fail
  rw [HBY.out]
  obtain ⟨W3, hW3⟩ : ∃ W3, (w2.alloc (.cells #[.pointer o2, .int .i64 (F.length : Int), .int .i64 (r : Int)] 26)).alloc (.cells #[.int .i64 q] 41) = W3 := ⟨_, rfl⟩
  rw [hW3] at VS B3 PT ⊢
  clear hW3
  generalize w2.heap.size = p11 at *
  refine (keep_is (fun W k y => CIS.out W k y) VS.out.sat).mono ?_
  rintro e w4 ⟨v4, rfl, s4, d4⟩
  obtain ⟨LA, hLA⟩ : ∃ LA, F.filter (fun x => oddB q x.2) = LA := ⟨_, rfl⟩
  rw [hLA] at s4
  obtain ⟨o4, rfl⟩ := s4.form
  have HLA := Lib.hid hLA
  have hv := Var.new s4
  have bn := below_new w4 (.cells #[.pointer o4, .int .i64 (LA.length : Int), .int .i64 (r : Int)] 26)
  have b4 := B3.out.trans (d4.mono B3.out.size)
  have b5 := b4.trans (bn.mono b4.size)
  have VA := Lib.hid hv; have B5 := Lib.hid b5
  have vs4 := VS.out.step d4
  have pt4 := PT.out.below d4 PT.out.lt
  have VS5 := Lib.hid (vs4.step bn); have PT5 := Lib.hid (pt4.below bn pt4.lt)
  obtain ⟨q0, q1, q2⟩ := vs4.c
  have np := vs4.at_.lt
  have q3 : w4.cell? ⟨p11 + 1, 0, none⟩ = some (.int .i64 q) := by rw [pt4.cell]; rfl
  have np2 := pt4.lt
  clear VS B3 PT s4 d4 b4 hv bn b5 vs4 pt4 hLA
  go_wp2_with fail
  obtain ⟨W5, hW5⟩ : ∃ W5, w4.alloc (.cells #[.pointer o4, .int .i64 (LA.length : Int), .int .i64 (r : Int)] 26) = W5 := ⟨_, rfl⟩
  rw [hW5] at VA B5 VS5 PT5 ⊢
  clear hW5 q0 q1 q2 q3 np np2
  generalize w4.heap.size = p13 at *
  refine (keep_not (q := fun n => !oddB q n) (fun W k y => CNOT.out W k y) VS5.out.sat).mono ?_
  rintro e w6 ⟨v6, rfl, s6, d6⟩
  obtain ⟨LB, hLB⟩ : ∃ LB, F.filter (fun x => !oddB q x.2) = LB := ⟨_, rfl⟩
  rw [hLB] at s6
  obtain ⟨o6, rfl⟩ := s6.form
  have HLB := Lib.hid hLB
  have hv := Var.new s6
  have bn := below_new w6 (.cells #[.pointer o6, .int .i64 (LB.length : Int), .int .i64 (r : Int)] 26)
  have b6 := B5.out.trans (d6.mono B5.out.size)
  have b7 := b6.trans (bn.mono b6.size)
  have dd := d6.trans (bn.mono d6.size)
  have VB := Lib.hid hv; have B7 := Lib.hid b7
  have VS7 := Lib.hid (VS5.out.step dd); have VA7 := Lib.hid (VA.out.step dd); have PT7 := Lib.hid (PT5.out.below dd PT5.out.lt)
  clear VS5 VA PT5 B5 s6 d6 b6 hv bn b7 dd hLB
  go_upto_region 9 with fail
  obtain ⟨W7, hW7⟩ : ∃ W7, w6.alloc (.cells #[.pointer o6, .int .i64 (LB.length : Int), .int .i64 (r : Int)] 26) = W7 := ⟨_, rfl⟩
  rw [hW7] at VB B7 VS7 VA7 PT7 ⊢
  clear hW7
  generalize w6.heap.size = p14 at *
  have hab : LA.length + LB.length = F.length := by rw [← HLA.out, ← HLB.out]; exact part_length (oddB q) F
  have fle := HLE.out.1
  have f1 : IntKind.i64.wrap ((LA.length : Int) + (LB.length : Int)) = (F.length : Int) := by rw [IntWalk.i64_in _ (by omega)]; omega
  have HS := Lib.hid (fun W (hb : Below W7.heap.size W7 W) => And.intro (VA7.out.step hb).c (And.intro (VB.out.step hb).c (VS7.out.step hb).c))
  have C1 := Lib.hid (fun W (hb : Below W7.heap.size W7 W) => (len_any (VA7.out.step hb).sat).mono (fun e w' (h : e = .returned (.int .i64 (LA.length : Int)) ∧ Below W.heap.size W w') => (And.intro h.1 (hb.trans (h.2.mono hb.size)) : e = .returned (.int .i64 (LA.length : Int)) ∧ Below W7.heap.size W7 w')))
  have C2 := Lib.hid (fun W (hb : Below W7.heap.size W7 W) => (len_any (VB.out.step hb).sat).mono (fun e w' (h : e = .returned (.int .i64 (LB.length : Int)) ∧ Below W.heap.size W w') => (And.intro h.1 (hb.trans (h.2.mono hb.size)) : e = .returned (.int .i64 (LB.length : Int)) ∧ Below W7.heap.size W7 w')))
  have C3 := Lib.hid (fun W (hb : Below W7.heap.size W7 W) => (len_any (VS7.out.step hb).sat).mono (fun e w' (h : e = .returned (.int .i64 (F.length : Int)) ∧ Below W.heap.size W w') => (And.intro h.1 (hb.trans (h.2.mono hb.size)) : e = .returned (.int .i64 (F.length : Int)) ∧ Below W7.heap.size W7 w')))
  have BD := Lib.hid (Below.refl W7.heap.size W7).drew
  clear hab fle CN CF HFS HK HBY CNOT
  go_cut [64] from 57 to 64 (fun s64 wx => s64 = .bool false ∧ Below W7.heap.size W7 wx)
  case first =>
    go_region_held3 (fun w' => ((w'.cell? ⟨p13, 0, none⟩ = some (.pointer o4) ∧ w'.cell? ⟨p13, 1, none⟩ = some (.int .i64 (LA.length : Int)) ∧ w'.cell? ⟨p13, 2, none⟩ = some (.int .i64 (r : Int))) ∧ (w'.cell? ⟨p14, 0, none⟩ = some (.pointer o6) ∧ w'.cell? ⟨p14, 1, none⟩ = some (.int .i64 (LB.length : Int)) ∧ w'.cell? ⟨p14, 2, none⟩ = some (.int .i64 (r : Int))) ∧ (w'.cell? ⟨p11, 0, none⟩ = some (.pointer o2) ∧ w'.cell? ⟨p11, 1, none⟩ = some (.int .i64 (F.length : Int)) ∧ w'.cell? ⟨p11, 2, none⟩ = some (.int .i64 (r : Int)))))
      (first | exact HS.out _ BD.out | exact HS.out _ (by assumption) | fail)
      (first
        | (go_at_call 24; (with_reducible refine (C1.out _ (by first | exact BD.out | assumption)).mono ?_); rintro e y1 ⟨rfl, m1⟩)
        | (go_at_call 24; (with_reducible refine (C2.out _ (by first | exact BD.out | assumption)).mono ?_); rintro e y1 ⟨rfl, m1⟩)
        | (go_at_call 24; (with_reducible refine (C3.out _ (by first | exact BD.out | assumption)).mono ?_); rintro e y1 ⟨rfl, m1⟩)
        | fail)
    all_goals (go_wp2_with fail; go_meet; exact ⟨rfl, by assumption⟩)
  case rest =>
  obtain ⟨rfl, hcb⟩ := hcut
  clear BD C1 C2 C3 f1
  obtain ⟨_, _, s0, s1, s2⟩ := HS.out _ hcb
  have vs := VS7.out.step hcb
  have va := VA7.out.step hcb
  have vb := VB.out.step hcb
  have pt := PT7.out.below hcb PT7.out.lt
  have bc := B7.out.trans (hcb.mono B7.out.size)
  have VSc := Lib.hid vs; have VAc := Lib.hid va; have VBc := Lib.hid vb; have PTc := Lib.hid pt; have BC := Lib.hid bc
  clear HS vs va vb pt bc hcb VS7 VA7 VB PT7 B7
  go_wp2_with fail
  refine (List_any VSc.out.sat).mono ?_
  rintro e W8 ⟨sv, rfl, so, d8⟩
  obtain ⟨O, cap, rfl⟩ := so.slice
  have VS8 := Lib.hid (VSc.out.step d8); have VA8 := Lib.hid (VAc.out.step d8); have VB8 := Lib.hid (VBc.out.step d8); have PT8 := Lib.hid (PTc.out.below d8 PTc.out.lt); have B8 := Lib.hid (BC.out.trans (d8.mono BC.out.size)); have SO := Lib.hid so
  clear VSc VAc VBc PTc BC so d8 s0 s1 s2
  go_wp2_with fail
  go_loopg [16] F.length (fun gh s16 wx => ∃ j : Nat, j ≤ F.length ∧ gh = F.length - j ∧ s16 = .int .i64 (j : Int) ∧ Below W8.heap.size W8 wx)
  case atStart => exact ⟨0, Nat.zero_le _, rfl, rfl, Below.refl _ _⟩
  case round =>
    obtain ⟨j, hj, hg, rfl, hb⟩ := hrel
    have HG := Lib.hid hg; have HB := Lib.hid hb; clear hg hb
    by_cases hlt : j < F.length
    · obtain ⟨g, cap', hsv, hgl, k0, k1⟩ := SO.out.pair rfl rfl hlt
      injection hsv with e1 _ e3
      subst e1; subst e3
      have hm : F[j] ∈ F := List.getElem_mem hlt
      have ga := get_filter HRI.out hm (oddB q)
      have gb := get_filter HRI.out hm (fun n => !oddB q n)
      rw [HLA.out] at ga
      rw [HLB.out] at gb
      have ci := fun W => CIS.out W F[j].1 F[j].2
      generalize F[j] = y at *
      have HR8 := Lib.hid (fun W (hb : Below W8.heap.size W8 W) => And.intro ((hb.cell (p := ⟨g, j * 2, none⟩) hgl).trans k0) ((hb.cell (p := ⟨g, j * 2 + 1, none⟩) hgl).trans k1))
      have HS8 := Lib.hid (fun W (hb : Below W8.heap.size W8 W) => And.intro (VA8.out.step hb).c (VB8.out.step hb).c)
      have HP8 := Lib.hid (fun W (hb : Below W8.heap.size W8 W) => (show W.cell? ⟨p11 + 1, 0, none⟩ = some (.int .i64 q) by rw [(PT8.out.below hb PT8.out.lt).cell]; rfl))
      have BR := Lib.hid HB.out.drew
      have b3 : (j : Int) < (F.length : Int) := by omega
      have b4 : (0 : Int) ≤ (j : Int) := by omega
      clear hm k0 k1
      cases hq : oddB q y.2
      ·
        rw [hq] at ga gb ci
        have G15 := Lib.hid (fun W (hb : Below W8.heap.size W8 W) => (get_any y.1 (VA8.out.step hb).sat).mono (fun e w' h => (And.intro h.1 (hb.trans (h.2.mono hb.size)) : e = .returned (.tuple #[.int .i64 ((get y.1 LA).getD 0), .bool (get y.1 LA).isSome]) ∧ Below W8.heap.size W8 w')))
        have G16 := Lib.hid (fun W (hb : Below W8.heap.size W8 W) => (get_any y.1 (VB8.out.step hb).sat).mono (fun e w' h => (And.intro h.1 (hb.trans (h.2.mono hb.size)) : e = .returned (.tuple #[.int .i64 ((get y.1 LB).getD 0), .bool (get y.1 LB).isSome]) ∧ Below W8.heap.size W8 w')))
        have G17 := Lib.hid (fun W (hb : Below W8.heap.size W8 W) => (ci W).mono (fun e w' h => (And.intro h.1 (hb.trans (h.2.mono hb.size)) : e = .returned (.bool false) ∧ Below W8.heap.size W8 w')))
        rw [ga] at G15
        rw [gb] at G16
        simp only [Bool.not_true, Bool.not_false] at G16
        generalize (get y.1 LA).getD 0 = na at *
        generalize (get y.1 LB).getD 0 = nb at *
        clear ga gb ci hq
        go_wp2_with fail
        go_region_held3 (fun w' => ((w'.cell? ⟨p13, 0, none⟩ = some (.pointer o4) ∧ w'.cell? ⟨p13, 1, none⟩ = some (.int .i64 (LA.length : Int)) ∧ w'.cell? ⟨p13, 2, none⟩ = some (.int .i64 (r : Int))) ∧ w'.cell? ⟨g, j * 2, none⟩ = some (.string y.1)))
          (first | exact ⟨(HS8.out _ BR.out).1, (HR8.out _ BR.out).1⟩ | exact ⟨(HS8.out _ m1).1, (HR8.out _ m1).1⟩ | fail)
          (first | (go_at_call 16; (with_reducible refine (G15.out _ BR.out).mono ?_); rintro e y1 ⟨rfl, m1⟩) | fail)
        all_goals go_wp2_with fail
        have BR2 := Lib.hid m1.drew
        go_region_held3 (fun w' => ((w'.cell? ⟨p14, 0, none⟩ = some (.pointer o6) ∧ w'.cell? ⟨p14, 1, none⟩ = some (.int .i64 (LB.length : Int)) ∧ w'.cell? ⟨p14, 2, none⟩ = some (.int .i64 (r : Int))) ∧ w'.cell? ⟨g, j * 2, none⟩ = some (.string y.1)))
          (first | exact ⟨(HS8.out _ BR2.out).2, (HR8.out _ BR2.out).1⟩ | exact ⟨(HS8.out _ m2).2, (HR8.out _ m2).1⟩ | fail)
          (first | (go_at_call 16; (with_reducible refine (G16.out _ BR2.out).mono ?_); rintro e y2 ⟨rfl, m2⟩) | fail)
        all_goals go_wp2_with fail
        have BR3 := Lib.hid m2.drew
        go_region_held3 (fun w' => (w'.cell? ⟨p11 + 1, 0, none⟩ = some (.int .i64 q) ∧ w'.cell? ⟨g, j * 2, none⟩ = some (.string y.1) ∧ w'.cell? ⟨g, j * 2 + 1, none⟩ = some (.int .i64 y.2)))
          (first | exact ⟨HP8.out _ BR3.out, HR8.out _ BR3.out⟩ | exact ⟨HP8.out _ m3, HR8.out _ m3⟩ | fail)
          (first | (go_at_call 14; (with_reducible refine (G17.out _ BR3.out).mono ?_); rintro e y3 ⟨rfl, m3⟩) | fail)
        all_goals go_wp2_with fail
        go_roundg (F.length - (j + 1))
        case measure => have := HG.out; omega
        case rel => exact ⟨j + 1, by omega, rfl, (by have := HLE.out; first | rfl | (rw [IntWalk.wrap64_in _ (by omega)]; rfl)), m3⟩
      ·
        rw [hq] at ga gb ci
        have G15 := Lib.hid (fun W (hb : Below W8.heap.size W8 W) => (get_any y.1 (VA8.out.step hb).sat).mono (fun e w' h => (And.intro h.1 (hb.trans (h.2.mono hb.size)) : e = .returned (.tuple #[.int .i64 ((get y.1 LA).getD 0), .bool (get y.1 LA).isSome]) ∧ Below W8.heap.size W8 w')))
        have G16 := Lib.hid (fun W (hb : Below W8.heap.size W8 W) => (get_any y.1 (VB8.out.step hb).sat).mono (fun e w' h => (And.intro h.1 (hb.trans (h.2.mono hb.size)) : e = .returned (.tuple #[.int .i64 ((get y.1 LB).getD 0), .bool (get y.1 LB).isSome]) ∧ Below W8.heap.size W8 w')))
        have G17 := Lib.hid (fun W (hb : Below W8.heap.size W8 W) => (ci W).mono (fun e w' h => (And.intro h.1 (hb.trans (h.2.mono hb.size)) : e = .returned (.bool true) ∧ Below W8.heap.size W8 w')))
        rw [ga] at G15
        rw [gb] at G16
        simp only [Bool.not_true, Bool.not_false] at G16
        generalize (get y.1 LA).getD 0 = na at *
        generalize (get y.1 LB).getD 0 = nb at *
        clear ga gb ci hq
        go_wp2_with fail
        go_region_held3 (fun w' => ((w'.cell? ⟨p13, 0, none⟩ = some (.pointer o4) ∧ w'.cell? ⟨p13, 1, none⟩ = some (.int .i64 (LA.length : Int)) ∧ w'.cell? ⟨p13, 2, none⟩ = some (.int .i64 (r : Int))) ∧ w'.cell? ⟨g, j * 2, none⟩ = some (.string y.1)))
          (first | exact ⟨(HS8.out _ BR.out).1, (HR8.out _ BR.out).1⟩ | exact ⟨(HS8.out _ m1).1, (HR8.out _ m1).1⟩ | fail)
          (first | (go_at_call 16; (with_reducible refine (G15.out _ BR.out).mono ?_); rintro e y1 ⟨rfl, m1⟩) | fail)
        all_goals go_wp2_with fail
        have BR2 := Lib.hid m1.drew
        go_region_held3 (fun w' => ((w'.cell? ⟨p14, 0, none⟩ = some (.pointer o6) ∧ w'.cell? ⟨p14, 1, none⟩ = some (.int .i64 (LB.length : Int)) ∧ w'.cell? ⟨p14, 2, none⟩ = some (.int .i64 (r : Int))) ∧ w'.cell? ⟨g, j * 2, none⟩ = some (.string y.1)))
          (first | exact ⟨(HS8.out _ BR2.out).2, (HR8.out _ BR2.out).1⟩ | exact ⟨(HS8.out _ m2).2, (HR8.out _ m2).1⟩ | fail)
          (first | (go_at_call 16; (with_reducible refine (G16.out _ BR2.out).mono ?_); rintro e y2 ⟨rfl, m2⟩) | fail)
        all_goals go_wp2_with fail
        have BR3 := Lib.hid m2.drew
        go_region_held3 (fun w' => (w'.cell? ⟨p11 + 1, 0, none⟩ = some (.int .i64 q) ∧ w'.cell? ⟨g, j * 2, none⟩ = some (.string y.1) ∧ w'.cell? ⟨g, j * 2 + 1, none⟩ = some (.int .i64 y.2)))
          (first | exact ⟨HP8.out _ BR3.out, HR8.out _ BR3.out⟩ | exact ⟨HP8.out _ m3, HR8.out _ m3⟩ | fail)
          (first | (go_at_call 14; (with_reducible refine (G17.out _ BR3.out).mono ?_); rintro e y3 ⟨rfl, m3⟩) | fail)
        all_goals go_wp2_with fail
        go_roundg (F.length - (j + 1))
        case measure => have := HG.out; omega
        case rel => exact ⟨j + 1, by omega, rfl, (by have := HLE.out; first | rfl | (rw [IntWalk.wrap64_in _ (by omega)]; rfl)), m3⟩
    · obtain rfl : j = F.length := by omega
      have vs := VS8.out.step HB.out
      have bw := B8.out.trans (HB.out.mono B8.out.size)
      obtain ⟨s0, s1, s2⟩ := vs.c
      have VSr := Lib.hid vs; have BW := Lib.hid bw
      clear vs bw HB B8 VS8 VA8 VB8 PT8 SO HLA HLB CIS
      have CW := Lib.hid (With_any k x VSr.out.sat)
      unfold WithPost at CW
      have hpd := put_del HRI.out k x
      have HPD := Lib.hid hpd; clear hpd
      have hwp : wput r k x F = if wok r k F = true then put k x F else F := rfl
      have HWP := Lib.hid hwp; clear hwp
      obtain ⟨P, hP⟩ : ∃ P, wput r k x F = P := ⟨_, rfl⟩
      rw [hP] at CW HWP
      clear hP
      have CG := Lib.hid (fun W (hs : SAt W (.agg #[.pointer o2, .int .i64 (F.length : Int), .int .i64 (r : Int)]) F r) => get_any k hs)
      generalize (get k F).getD 0 = gn at *
      generalize (get k F).isSome = gs at *
      cases hw : wok r k F
      ·
        rw [hw] at CW HWP
        clear hw
        go_wp2_with fail
        refine CW.out.mono ?_
        rintro e w9 ⟨v9, rfl, s9, d9⟩
        obtain ⟨o9, rfl⟩ := s9.form
        have hv := Var.new s9
        have bn := below_new w9 (.cells #[.pointer o9, .int .i64 (P.length : Int), .int .i64 (r : Int)] 26)
        have dd := d9.trans (bn.mono d9.size)
        have vs9 := VSr.out.step d9
        obtain ⟨q0, q1, q2⟩ := vs9.c
        have np := vs9.at_.lt
        have VS9 := Lib.hid (VSr.out.step dd); have VT := Lib.hid hv; have BT := Lib.hid (BW.out.trans (dd.mono BW.out.size))
        clear vs9 VSr BW CW s9 d9 hv bn dd s0 s1 s2
        go_wp2_with fail
        obtain ⟨Wt, hWt⟩ : ∃ Wt, w9.alloc (.cells #[.pointer o9, .int .i64 (P.length : Int), .int .i64 (r : Int)] 26) = Wt := ⟨_, rfl⟩
        rw [hWt] at VS9 VT BT ⊢
        clear hWt q0 q1 q2 np
        generalize w9.heap.size = p21 at *
        refine (CG.out _ VS9.out.sat).mono ?_
        rintro e wg ⟨rfl, dg⟩
        have bg := BT.out.trans (dg.mono BT.out.size)
        have BG := Lib.hid bg
        clear bg dg VS9 VT BT CG HPD HWP
        go_wp2_with fail
        go_quiet (fail)
        go_wp2_with fail
        go_ret
        exact ⟨rfl, below_drewN BG.out _⟩
      ·
        rw [hw] at CW HWP
        clear hw
        go_wp2_with fail
        refine CW.out.mono ?_
        rintro e w9 ⟨v9, rfl, s9, d9⟩
        obtain ⟨o9, rfl⟩ := s9.form
        have hv := Var.new s9
        have bn := below_new w9 (.cells #[.pointer o9, .int .i64 (P.length : Int), .int .i64 (r : Int)] 26)
        have dd := d9.trans (bn.mono d9.size)
        have vs9 := VSr.out.step d9
        obtain ⟨q0, q1, q2⟩ := vs9.c
        have np := vs9.at_.lt
        have VS9 := Lib.hid (VSr.out.step dd); have VT := Lib.hid hv; have BT := Lib.hid (BW.out.trans (dd.mono BW.out.size))
        clear vs9 VSr BW CW s9 d9 hv bn dd s0 s1 s2
        go_wp2_with fail
        obtain ⟨Wt, hWt⟩ : ∃ Wt, w9.alloc (.cells #[.pointer o9, .int .i64 (P.length : Int), .int .i64 (r : Int)] 26) = Wt := ⟨_, rfl⟩
        rw [hWt] at VS9 VT BT ⊢
        clear hWt q0 q1 q2 np
        generalize w9.heap.size = p21 at *
        refine (CG.out _ VS9.out.sat).mono ?_
        rintro e wg ⟨rfl, dg⟩
        have hPe : P = put k x F := HWP.out
        subst hPe
        have VSg := Lib.hid (VS9.out.step dg); have VTg := Lib.hid (VT.out.step dg); have BG := Lib.hid (BT.out.trans (dg.mono BT.out.size))
        have C1 := Lib.hid (fun W (hb : Below wg.heap.size wg W) => Without_any k (VTg.out.step hb).sat)
        have C2 := Lib.hid (fun W v (hb : Below wg.heap.size wg W) (hs : SAt W v (del k (put k x F)) r) => equal_any hs (VSg.out.step hb).sat)
        have hdec : decide (r = r ∧ del k (put k x F) = F) = !gs := by rw [← HPD.out]; simp
        rw [hdec] at C2
        have HS9 := Lib.hid (fun W (hb : Below wg.heap.size wg W) => And.intro (VTg.out.step hb).c (VSg.out.step hb).c)
        have BD := Lib.hid (Below.refl wg.heap.size wg).drew
        clear dg VS9 VT BT CG HPD HWP hdec VSg VTg
        generalize (put k x F).length = nP at *
        go_wp2_with fail
        go_region_held3 (fun w' => ((w'.cell? ⟨p21, 0, none⟩ = some (.pointer o9) ∧ w'.cell? ⟨p21, 1, none⟩ = some (.int .i64 (nP : Int)) ∧ w'.cell? ⟨p21, 2, none⟩ = some (.int .i64 (r : Int))) ∧ (w'.cell? ⟨p11, 0, none⟩ = some (.pointer o2) ∧ w'.cell? ⟨p11, 1, none⟩ = some (.int .i64 (F.length : Int)) ∧ w'.cell? ⟨p11, 2, none⟩ = some (.int .i64 (r : Int)))))
          (first | exact HS9.out _ BD.out | exact HS9.out _ m1 | exact HS9.out _ m2 | fail)
          (first
            | (go_at_call 11; (with_reducible refine (C1.out _ BD.out).mono ?_); rintro e y1 ⟨vv, rfl, sv1, n1⟩; have m1 := BD.out.trans (n1.mono BD.out.size))
            | (go_at_call 20; (with_reducible refine (C2.out _ _ m1 sv1).mono ?_); rintro e y2 ⟨rfl, n2⟩; have m2 := m1.trans (n2.mono m1.size))
            | fail)
        all_goals go_wp2_with fail
        all_goals go_ret
        all_goals exact ⟨by cases gs <;> rfl, BG.out.trans (m2.mono BG.out.size)⟩
end Go.Proofs.Ytdpgpdadgcogjaa
