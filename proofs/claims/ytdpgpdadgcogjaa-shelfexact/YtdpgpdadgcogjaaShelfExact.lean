/- ShelfExact: the walk. -/
import Derived.Test.YtdpgpdadgcogjaaRefC
import Derived.Test.YtdpgpdadgcogjaaOrdA
namespace Go.Proofs.Ytdpgpdadgcogjaa
open Go.RowKit Go.Lib Plain
set_option linter.unusedVariables false

/-- the document's own With, of a row that the call owns -/
theorem rwith_own {w : World} {v : Value} {l : List KV} {B room : Nat} {k : ByteArray} {x : Int} (h : Own eR w B v l) (hB : B ≤ w.heap.size) (hr : Rise l) (hn : l.length ≤ 70000) (hroom : l.length ≤ room) :
    Calls Try.prog 10 #[v, .int .i64 (room : Int), .string k, .int .i64 x] w fun e w' => ∃ sv, e = .returned (.tuple #[sv, .bool (wok room k l)]) ∧ Own eR w' B sv (wput room k x l) ∧ Below w.heap.size w w' := by
  unfold wput
  cases hg : (get k l).isSome
  · by_cases hl : l.length = room
    · have ew : wok room k l = false := by unfold wok; rw [hg]; simp [hl]
      rw [ew]
      have hg2 : get k l = none := by cases hh : get k l with
        | none => rfl
        | some y => rw [hh] at hg; cases hg
      refine (rwith_no h.rd hn hg2 hl).mono ?_
      rintro e w' ⟨rfl, rfl⟩
      exact ⟨v, rfl, h, Below.refl _ _⟩
    · have ew : wok room k l = true := by unfold wok; simp [hl]
      rw [ew]
      refine (rwith_new h.rd hr hn hg (by omega)).mono ?_
      rintro e w' ⟨sv, rfl, ho, hb⟩
      exact ⟨sv, rfl, ho.mono hB, hb⟩
  · have ew : wok room k l = true := by unfold wok; rw [hg]; rfl
    rw [ew]
    refine (rwith_old h.rd hr hn hg).mono ?_
    rintro e w' ⟨sv, rfl, ho, hb⟩
    exact ⟨sv, rfl, ho.mono hB, hb⟩
/-- within the loop: the shelf, and the document's row -/
structure XSt (w wx : World) (p : Nat) (o : Option Addr) (l : List KV) (R : Nat) (rv : Value) : Prop where
  var : Var wx p o l R
  own : Own eR wx w.heap.size rv l
  bel : Below w.heap.size w wx
theorem XSt.below {w wx wy : World} {p : Nat} {o : Option Addr} {l : List KV} {R : Nat} {rv : Value} (h : XSt w wx p o l R rv) (hb : Below wx.heap.size wx wy) : XSt w wy p o l R rv :=
  ⟨h.var.step hb, h.own.below hb, h.bel.trans (hb.mono h.bel.size)⟩
set_option maxRecDepth 100000 in
set_option maxHeartbeats 12800000 in
theorem shelfExact_walk (z : Int) (A : Option Addr) (ca : Nat) (ds : List Deed) (w : World) (hz : inI64 z) (_ : ∀ y ∈ ds, y.Ok) (hA : ActsAt w w.heap.size A ds) (hl : ds.length ≤ maxLen) :
    Calls Try.prog 3 #[.int .i64 z, .slice A ds.length ca] w fun e w' => e = .returned (.bool true) ∧ Below w.heap.size w w' := by
  unfold maxLen at hl
  have hmf : ∀ (fn : Fn) (first cap : Array Value) (w : World), (Instr.makeFunc fn first cap).run Try.prog w = .ok (.func fn first cap) w := fun _ _ _ _ => rfl
  have CN := Lib.hid (fun W => new_any z W)
  have hR : rm z = if z < 1 ∨ 65536 < z then 0 else z.toNat := rfl
  generalize rm z = R at *
  have HR := Lib.hid hR
  have HA := Lib.hid hA
  clear hA hR
  go_enter Try.func3, Try.ntmps3
  go_wp2_with (go_at_call 7; refine (awake_any _).mono ?_; rintro e w0 ⟨rfl, hb0⟩)
  refine (CN.out _).mono ?_
  rintro e w1 ⟨v1, rfl, s1, d1⟩
  obtain ⟨o1, rfl⟩ := s1.form' 0 R rfl rfl
  have hv : Var (w1.alloc (.cells #[.pointer o1, .int .i64 0, .int .i64 (R : Int)] 26)) w1.heap.size o1 [] R := Var.new (l := []) (room := R) s1
  have bn := below_new w1 (.cells #[.pointer o1, .int .i64 0, .int .i64 (R : Int)] 26)
  have b1 := hb0.trans (d1.mono hb0.size)
  have V1 := Lib.hid hv; have B1 := Lib.hid (b1.trans (bn.mono b1.size))
  have hlo : w.heap.size ≤ w1.heap.size := b1.size
  clear hv bn b1 s1 d1 hb0
  go_upto_region 5 with fail
  obtain ⟨W1, hW1⟩ : ∃ W1, w1.alloc (.cells #[.pointer o1, .int .i64 0, .int .i64 (R : Int)] 26) = W1 := ⟨_, rfl⟩
  rw [hW1] at V1 B1 ⊢
  clear hW1
  generalize w1.heap.size = p5 at *
  go_cut [30] from 25 to 30 (fun s30 wx => s30 = .bool (decide (z < 1 ∨ 65536 < z)) ∧ wx = W1)
  case first =>
    by_cases h1 : z < 1
    · go_wp2_with fail
      go_meet
      exact ⟨by rw [decide_eq_true (Or.inl h1)], rfl⟩
    · by_cases h2 : 65536 < z
      · go_wp2_with fail
        go_meet
        exact ⟨by rw [decide_eq_true (Or.inr h2)], rfl⟩
      · go_wp2_with fail
        go_meet
        exact ⟨by rw [decide_eq_false (by omega)], rfl⟩
  case rest =>
  obtain ⟨rfl, rfl⟩ := hcut
  go_upto_if 30 with fail
  go_cut [6] from 25 to 30 (fun s6 wx => s6 = .int .i64 (R : Int) ∧ wx = wc)
  case first =>
    by_cases h1 : z < 1 ∨ 65536 < z
    · have hr : R = 0 := by rw [HR.out, if_pos h1]
      rw [decide_eq_true h1]
      clear h1
      subst hr
      go_wp2_with fail
      go_meet
      exact ⟨rfl, rfl⟩
    · have hr : (R : Int) = z := by rw [HR.out, if_neg h1]; omega
      rw [decide_eq_false h1]
      have HZ := Lib.hid hr
      clear h1 hr
      go_wp2_with fail
      go_meet
      exact ⟨by rw [HZ.out], rfl⟩
  case rest =>
  obtain ⟨rfl, rfl⟩ := hcut
  have W0 := Lib.hid (GSt.start eR wc)
  have VC := Lib.hid (V1.out.step (below_new wc (.cells #[] 68)))
  have hx0 : XSt w (wc.alloc (.cells #[] 68)) p5 o1 [] R (.slice (some ⟨wc.heap.size, 0, none⟩) 0 0) := ⟨VC.out, W0.out.own.mono B1.out.size, B1.out.trans (W0.out.bel.mono B1.out.size)⟩
  have HX0 := Lib.hid hx0
  clear hx0 W0 VC V1 B1 CN HR
  obtain ⟨n, hn⟩ : ∃ n, ds.length = n := ⟨_, rfl⟩
  have HN := Lib.hid hn
  rw [hn] at hl ⊢
  clear hn
  go_wp2_with fail
  go_loopg [8, 7] 100 (fun gh s8 s7 wx => ∃ (j : Nat) (o : Option Addr) (l : List KV) (rv : Value), j ≤ n ∧ j ≤ 100 ∧ gh = 100 - j ∧ s8 = .int .i64 (j : Int) ∧ rv = s7 ∧ XSt w wx p5 o l R rv)
  case atStart => exact ⟨0, o1, [], _, Nat.zero_le _, Nat.zero_le _, rfl, rfl, rfl, HX0.out⟩
  case round =>
    obtain ⟨j, o2, l1, rv, hj, hj2, hg, rfl, rfl, hst⟩ := hrel
    have HG := Lib.hid hg; have KST := Lib.hid hst; clear hg hst HX0
    by_cases hlt : j < n ∧ j < 100
    · have hjj : j < ds.length := by rw [HN.out]; exact hlt.1
      have hdj : ds[j]? = some ds[j] := List.getElem?_eq_getElem hjj
      obtain ⟨b, off, rfl, hbl, c0, c1, c2⟩ := (HA.out.keep KST.out.bel) j hjj
      have hgd : ds.getD j noDeed = ds[j] := by simp [List.getD, hdj]
      rw [hgd] at c0 c1 c2
      generalize ds[j] = d at *
      obtain ⟨kd, k, x⟩ := d
      clear hdj hgd
      simp only at c0 c1 c2
      have b3 : (j : Int) < (n : Int) := by omega
      have b4 : (0 : Int) ≤ (j : Int) := by omega
      have b5 : (j : Int) < 100 := by omega
      have hb1 := below_new wr (.cells #[.int .i64 kd, .string k, .int .i64 x] 30)
      have ST1 := Lib.hid (KST.out.below hb1)
      have AX := Lib.hid (At.new wr 30 #[.int .i64 kd, .string k, .int .i64 x])
      obtain ⟨v0, v1, v2⟩ := KST.out.var.c
      have lw : p5 < wr.heap.size := KST.out.var.at_.lt
      have HKB := Lib.hid KST.out.bel
      clear hb1 KST
      by_cases hks : 10 < k.size
      · clear ST1 AX
        have hks2 : (10 : Int) < (k.size : Int) := by omega
        go_wp2_with fail
        go_ret
        exact ⟨rfl, HKB.out.alloc HKB.out.size _⟩
      have hks2 : ¬ (10 : Int) < (k.size : Int) := by omega
      clear HKB
      by_cases k13 : kd = 1 ∨ kd = 2 ∨ kd = 3
      · have k13' := k13
        clear k13
        rcases k13' with e | e | e
        ·
            subst e
            have hwa : ∃ wa, wr.alloc (.cells #[.int .i64 1, .string k, .int .i64 x] 30) = wa := ⟨_, rfl⟩
            obtain ⟨wa, hwa⟩ := hwa
            have HWA := Lib.hid hwa
            rw [hwa] at ST1 AX
            clear hwa
            go_wp2_with fail
            rw [HWA.out]
            refine (With_any k x ST1.out.var.sat).mono ?_
            rintro e w5 ⟨v5, rfl, s5, b5⟩
            obtain ⟨o5, rfl⟩ := s5.form
            have st5 := ST1.out.below b5
            have ax5 := AX.out.below b5 AX.out.lt
            have bn := below_new w5 (.cells #[.pointer o5, .int .i64 ((wput R k x l1).length : Int), .int .i64 (R : Int)] 26)
            have ST6 := Lib.hid (st5.below bn); have VT := Lib.hid (Var.new s5)
            have t1 : w5.cell? ⟨wr.heap.size, 1, none⟩ = some (.string k) := by rw [ax5.cell]; rfl
            have t2 : w5.cell? ⟨wr.heap.size, 2, none⟩ = some (.int .i64 x) := by rw [ax5.cell]; rfl
            have lt5 := ax5.lt
            have pp := st5.var.at_.lt
            clear HWA v0 v1 v2 lw c0 c1 c2 st5 ax5 s5 b5 bn ST1 AX
            go_wp2_with fail
            obtain ⟨W6, hW6⟩ : ∃ W6, w5.alloc (.cells #[.pointer o5, .int .i64 ((wput R k x l1).length : Int), .int .i64 (R : Int)] 26) = W6 := ⟨_, rfl⟩
            rw [hW6] at ST6 VT ⊢
            clear hW6 t1 t2 lt5
            generalize w5.heap.size = p10 at *
            have hle := ST6.out.var.sat.le
            refine (rwith_own (k := k) (x := x) ST6.out.own ST6.out.bel.size ST6.out.var.sat.rise (by omega) hle.1).mono ?_
            rintro e w7 ⟨sv, rfl, so, d7⟩
            clear hle
            have st7 := ST6.out.below d7
            have vt7 := VT.out.step d7
            obtain ⟨q0, q1, q2⟩ := st7.var.c
            obtain ⟨t0, t1, t2⟩ := vt7.c
            have y0 := st7.var.at_.frozen 0; have y1 := st7.var.at_.frozen 1; have y2 := st7.var.at_.frozen 2
            have ne1 : ¬ p5 = p10 := by omega
            have ne2 : ¬ p10 = p5 := by omega
            have ST5 := Lib.hid (show XSt w (((w7.setCell ⟨p5, 0, none⟩ (.pointer o5)).setCell ⟨p5, 1, none⟩ (.int .i64 ((wput R k x l1).length : Int))).setCell ⟨p5, 2, none⟩ (.int .i64 (R : Int))) p5 o5 (wput R k x l1) R sv from ⟨st7.var.put vt7.sat, so.store st7.var (by decide), Below.store st7.bel hlo⟩)
            clear st7 vt7 so d7 ST6 VT
            generalize wok R k l1 = bb at *
            generalize wput R k x l1 = l2 at *
            go_wp2_with fail
            obtain ⟨W8, hW8⟩ : ∃ W8, ((w7.setCell ⟨p5, 0, none⟩ (.pointer o5)).setCell ⟨p5, 1, none⟩ (.int .i64 (l2.length : Int))).setCell ⟨p5, 2, none⟩ (.int .i64 (R : Int)) = W8 := ⟨_, rfl⟩
            rw [hW8] at ST5 ⊢
            clear hW8 q0 q1 q2 t0 t1 t2 y0 y1 y2 ne1 ne2 pp
            refine (alike_any ST5.out.var.sat ST5.out.own.rd).mono ?_
            rintro e w6 ⟨rfl, d6⟩
            have ST6 := Lib.hid (ST5.out.below d6)
            obtain ⟨q0, q1, q2⟩ := ST6.out.var.c
            clear ST5 d6
            go_wp2_with fail
            refine (room_any ST6.out.var.sat).mono ?_
            rintro e w7 ⟨rfl, d7⟩
            have ST7 := Lib.hid (ST6.out.below d7)
            clear ST6 d7 q0 q1 q2
            go_wp2_with fail
            go_roundg (100 - (j + 1))
            case measure => have := HG.out; omega
            case rel => exact ⟨j + 1, _, _, _, by omega, by omega, rfl, rfl, rfl, ST7.out⟩
        ·
            subst e
            have hwa : ∃ wa, wr.alloc (.cells #[.int .i64 2, .string k, .int .i64 x] 30) = wa := ⟨_, rfl⟩
            obtain ⟨wa, hwa⟩ := hwa
            have HWA := Lib.hid hwa
            rw [hwa] at ST1 AX
            clear hwa
            go_wp2_with fail
            rw [HWA.out]
            refine (With_any k x ST1.out.var.sat).mono ?_
            rintro e w5 ⟨v5, rfl, s5, b5⟩
            obtain ⟨o5, rfl⟩ := s5.form
            have st5 := ST1.out.below b5
            have ax5 := AX.out.below b5 AX.out.lt
            have bn := below_new w5 (.cells #[.pointer o5, .int .i64 ((wput R k x l1).length : Int), .int .i64 (R : Int)] 26)
            have ST6 := Lib.hid (st5.below bn); have VT := Lib.hid (Var.new s5)
            have t1 : w5.cell? ⟨wr.heap.size, 1, none⟩ = some (.string k) := by rw [ax5.cell]; rfl
            have t2 : w5.cell? ⟨wr.heap.size, 2, none⟩ = some (.int .i64 x) := by rw [ax5.cell]; rfl
            have lt5 := ax5.lt
            have pp := st5.var.at_.lt
            clear HWA v0 v1 v2 lw c0 c1 c2 st5 ax5 s5 b5 bn ST1 AX
            go_wp2_with fail
            obtain ⟨W6, hW6⟩ : ∃ W6, w5.alloc (.cells #[.pointer o5, .int .i64 ((wput R k x l1).length : Int), .int .i64 (R : Int)] 26) = W6 := ⟨_, rfl⟩
            rw [hW6] at ST6 VT ⊢
            clear hW6 t1 t2 lt5
            generalize w5.heap.size = p10 at *
            have hle := ST6.out.var.sat.le
            refine (rwith_own (k := k) (x := x) ST6.out.own ST6.out.bel.size ST6.out.var.sat.rise (by omega) hle.1).mono ?_
            rintro e w7 ⟨sv, rfl, so, d7⟩
            clear hle
            have st7 := ST6.out.below d7
            have vt7 := VT.out.step d7
            obtain ⟨q0, q1, q2⟩ := st7.var.c
            obtain ⟨t0, t1, t2⟩ := vt7.c
            have y0 := st7.var.at_.frozen 0; have y1 := st7.var.at_.frozen 1; have y2 := st7.var.at_.frozen 2
            have ne1 : ¬ p5 = p10 := by omega
            have ne2 : ¬ p10 = p5 := by omega
            have ST5 := Lib.hid (show XSt w (((w7.setCell ⟨p5, 0, none⟩ (.pointer o5)).setCell ⟨p5, 1, none⟩ (.int .i64 ((wput R k x l1).length : Int))).setCell ⟨p5, 2, none⟩ (.int .i64 (R : Int))) p5 o5 (wput R k x l1) R sv from ⟨st7.var.put vt7.sat, so.store st7.var (by decide), Below.store st7.bel hlo⟩)
            clear st7 vt7 so d7 ST6 VT
            generalize wok R k l1 = bb at *
            generalize wput R k x l1 = l2 at *
            go_wp2_with fail
            obtain ⟨W8, hW8⟩ : ∃ W8, ((w7.setCell ⟨p5, 0, none⟩ (.pointer o5)).setCell ⟨p5, 1, none⟩ (.int .i64 (l2.length : Int))).setCell ⟨p5, 2, none⟩ (.int .i64 (R : Int)) = W8 := ⟨_, rfl⟩
            rw [hW8] at ST5 ⊢
            clear hW8 q0 q1 q2 t0 t1 t2 y0 y1 y2 ne1 ne2 pp
            refine (alike_any ST5.out.var.sat ST5.out.own.rd).mono ?_
            rintro e w6 ⟨rfl, d6⟩
            have ST6 := Lib.hid (ST5.out.below d6)
            obtain ⟨q0, q1, q2⟩ := ST6.out.var.c
            clear ST5 d6
            go_wp2_with fail
            refine (room_any ST6.out.var.sat).mono ?_
            rintro e w7 ⟨rfl, d7⟩
            have ST7 := Lib.hid (ST6.out.below d7)
            clear ST6 d7 q0 q1 q2
            go_wp2_with fail
            go_roundg (100 - (j + 1))
            case measure => have := HG.out; omega
            case rel => exact ⟨j + 1, _, _, _, by omega, by omega, rfl, rfl, rfl, ST7.out⟩
        ·
            subst e
            have hwa : ∃ wa, wr.alloc (.cells #[.int .i64 3, .string k, .int .i64 x] 30) = wa := ⟨_, rfl⟩
            obtain ⟨wa, hwa⟩ := hwa
            have HWA := Lib.hid hwa
            rw [hwa] at ST1 AX
            clear hwa
            go_wp2_with fail
            rw [HWA.out]
            refine (With_any k x ST1.out.var.sat).mono ?_
            rintro e w5 ⟨v5, rfl, s5, b5⟩
            obtain ⟨o5, rfl⟩ := s5.form
            have st5 := ST1.out.below b5
            have ax5 := AX.out.below b5 AX.out.lt
            have bn := below_new w5 (.cells #[.pointer o5, .int .i64 ((wput R k x l1).length : Int), .int .i64 (R : Int)] 26)
            have ST6 := Lib.hid (st5.below bn); have VT := Lib.hid (Var.new s5)
            have t1 : w5.cell? ⟨wr.heap.size, 1, none⟩ = some (.string k) := by rw [ax5.cell]; rfl
            have t2 : w5.cell? ⟨wr.heap.size, 2, none⟩ = some (.int .i64 x) := by rw [ax5.cell]; rfl
            have lt5 := ax5.lt
            have pp := st5.var.at_.lt
            clear HWA v0 v1 v2 lw c0 c1 c2 st5 ax5 s5 b5 bn ST1 AX
            go_wp2_with fail
            obtain ⟨W6, hW6⟩ : ∃ W6, w5.alloc (.cells #[.pointer o5, .int .i64 ((wput R k x l1).length : Int), .int .i64 (R : Int)] 26) = W6 := ⟨_, rfl⟩
            rw [hW6] at ST6 VT ⊢
            clear hW6 t1 t2 lt5
            generalize w5.heap.size = p10 at *
            have hle := ST6.out.var.sat.le
            refine (rwith_own (k := k) (x := x) ST6.out.own ST6.out.bel.size ST6.out.var.sat.rise (by omega) hle.1).mono ?_
            rintro e w7 ⟨sv, rfl, so, d7⟩
            clear hle
            have st7 := ST6.out.below d7
            have vt7 := VT.out.step d7
            obtain ⟨q0, q1, q2⟩ := st7.var.c
            obtain ⟨t0, t1, t2⟩ := vt7.c
            have y0 := st7.var.at_.frozen 0; have y1 := st7.var.at_.frozen 1; have y2 := st7.var.at_.frozen 2
            have ne1 : ¬ p5 = p10 := by omega
            have ne2 : ¬ p10 = p5 := by omega
            have ST5 := Lib.hid (show XSt w (((w7.setCell ⟨p5, 0, none⟩ (.pointer o5)).setCell ⟨p5, 1, none⟩ (.int .i64 ((wput R k x l1).length : Int))).setCell ⟨p5, 2, none⟩ (.int .i64 (R : Int))) p5 o5 (wput R k x l1) R sv from ⟨st7.var.put vt7.sat, so.store st7.var (by decide), Below.store st7.bel hlo⟩)
            clear st7 vt7 so d7 ST6 VT
            generalize wok R k l1 = bb at *
            generalize wput R k x l1 = l2 at *
            go_wp2_with fail
            obtain ⟨W8, hW8⟩ : ∃ W8, ((w7.setCell ⟨p5, 0, none⟩ (.pointer o5)).setCell ⟨p5, 1, none⟩ (.int .i64 (l2.length : Int))).setCell ⟨p5, 2, none⟩ (.int .i64 (R : Int)) = W8 := ⟨_, rfl⟩
            rw [hW8] at ST5 ⊢
            clear hW8 q0 q1 q2 t0 t1 t2 y0 y1 y2 ne1 ne2 pp
            refine (alike_any ST5.out.var.sat ST5.out.own.rd).mono ?_
            rintro e w6 ⟨rfl, d6⟩
            have ST6 := Lib.hid (ST5.out.below d6)
            obtain ⟨q0, q1, q2⟩ := ST6.out.var.c
            clear ST5 d6
            go_wp2_with fail
            refine (room_any ST6.out.var.sat).mono ?_
            rintro e w7 ⟨rfl, d7⟩
            have ST7 := Lib.hid (ST6.out.below d7)
            clear ST6 d7 q0 q1 q2
            go_wp2_with fail
            go_roundg (100 - (j + 1))
            case measure => have := HG.out; omega
            case rel => exact ⟨j + 1, _, _, _, by omega, by omega, rfl, rfl, rfl, ST7.out⟩
      · by_cases k4 : kd = 4
        ·
            subst k4
            clear k13
            have hwa : ∃ wa, wr.alloc (.cells #[.int .i64 4, .string k, .int .i64 x] 30) = wa := ⟨_, rfl⟩
            obtain ⟨wa, hwa⟩ := hwa
            have HWA := Lib.hid hwa
            rw [hwa] at ST1 AX
            clear hwa
            go_wp2_with fail
            rw [HWA.out]
            refine (Without_any k ST1.out.var.sat).mono ?_
            rintro e w5 ⟨v5, rfl, s5, b5⟩
            obtain ⟨l2, hl2⟩ : ∃ l2, del k l1 = l2 := ⟨_, rfl⟩
            rw [hl2] at s5
            obtain ⟨o5, rfl⟩ := s5.form
            have HL2 := Lib.hid hl2
            have st5 := ST1.out.below b5
            have ax5 := AX.out.below b5 AX.out.lt
            obtain ⟨q0, q1, q2⟩ := st5.var.c
            have y0 := st5.var.at_.frozen 0; have y1 := st5.var.at_.frozen 1; have y2 := st5.var.at_.frozen 2
            have t1 : w5.cell? ⟨wr.heap.size, 1, none⟩ = some (.string k) := by rw [ax5.cell]; rfl
            have ne1 : ¬ p5 = wr.heap.size := by omega
            have ne2 : ¬ wr.heap.size = p5 := by omega
            have V6 := Lib.hid (st5.var.put s5)
            have O6 := Lib.hid (st5.own.store (x := .pointer o5) (y := .int .i64 (l2.length : Int)) (z := .int .i64 (R : Int)) st5.var (by decide))
            have B6 := Lib.hid (Below.store (x := .pointer o5) (y := .int .i64 (l2.length : Int)) (z := .int .i64 (R : Int)) st5.bel hlo)
            have HLE1 := Lib.hid (show l1.length ≤ 70000 by have := st5.var.sat.le; omega)
            clear HWA v0 v1 v2 c0 c1 c2 st5 ax5 s5 b5 ST1 AX hl2
            go_wp2_with fail
            obtain ⟨W6, hW6⟩ : ∃ W6, ((w5.setCell ⟨p5, 0, none⟩ (.pointer o5)).setCell ⟨p5, 1, none⟩ (.int .i64 (l2.length : Int))).setCell ⟨p5, 2, none⟩ (.int .i64 (R : Int)) = W6 := ⟨_, rfl⟩
            rw [hW6] at V6 O6 B6 ⊢
            clear hW6 q0 q1 q2 y0 y1 y2 t1 ne1 ne2 lw
            skip
            refine (rwithout_any k O6.out.rd HLE1.out).mono ?_
            rintro e w7 ⟨sv, rfl, gs⟩
            have so := gs.own
            rw [HL2.out] at so
            have v7 := V6.out.step gs.bel
            have ST5 := Lib.hid (show XSt w w7 p5 o5 l2 R sv from ⟨v7, so.mono B6.out.size, B6.out.trans (gs.bel.mono B6.out.size)⟩)
            obtain ⟨q0, q1, q2⟩ := v7.c
            clear so v7 gs V6 O6 B6 HL2
            go_wp2_with fail
            clear q0 q1 q2
            refine (alike_any ST5.out.var.sat ST5.out.own.rd).mono ?_
            rintro e w6 ⟨rfl, d6⟩
            have ST6 := Lib.hid (ST5.out.below d6)
            obtain ⟨q0, q1, q2⟩ := ST6.out.var.c
            clear ST5 d6
            go_wp2_with fail
            refine (room_any ST6.out.var.sat).mono ?_
            rintro e w7 ⟨rfl, d7⟩
            have ST7 := Lib.hid (ST6.out.below d7)
            clear ST6 d7 q0 q1 q2
            go_wp2_with fail
            go_roundg (100 - (j + 1))
            case measure => have := HG.out; omega
            case rel => exact ⟨j + 1, _, _, _, by omega, by omega, rfl, rfl, rfl, ST7.out⟩
        · by_cases k5 : kd = 5
          ·
            subst k5
            clear k13
            have hby : wrap64 (2 + wrap64 ((IntKind.u64.wrap x).tmod 3)) = byOf x := rfl
            have HBY := Lib.hid hby; clear hby
            have hbi := byOf_in x
            have CK := Lib.hid (keep_is (fun W k y => is_any (byOf x) y k hbi.1 hbi.2 W) ST1.out.var.sat)
            unfold fkeep at CK
            have HBI := Lib.hid hbi
            clear hbi k4
            have hwa : ∃ wa, wr.alloc (.cells #[.int .i64 5, .string k, .int .i64 x] 30) = wa := ⟨_, rfl⟩
            obtain ⟨wa, hwa⟩ := hwa
            have HWA := Lib.hid hwa
            rw [hwa] at ST1 AX CK
            clear hwa
            go_wp2_with fail
            rw [HBY.out, HWA.out]
            refine (CK.out).mono ?_
            rintro e w5 ⟨v5, rfl, s5, b5⟩
            obtain ⟨l2, hl2⟩ : ∃ l2, l1.filter (fun y => oddB (byOf x) y.2) = l2 := ⟨_, rfl⟩
            rw [hl2] at s5
            obtain ⟨o5, rfl⟩ := s5.form
            have HL2 := Lib.hid hl2
            have st5 := ST1.out.below b5
            have ax5 := AX.out.below b5 AX.out.lt
            obtain ⟨q0, q1, q2⟩ := st5.var.c
            have y0 := st5.var.at_.frozen 0; have y1 := st5.var.at_.frozen 1; have y2 := st5.var.at_.frozen 2
            have t1 : w5.cell? ⟨wr.heap.size, 1, none⟩ = some (.string k) := by rw [ax5.cell]; rfl
            have ne1 : ¬ p5 = wr.heap.size := by omega
            have ne2 : ¬ wr.heap.size = p5 := by omega
            have V6 := Lib.hid (st5.var.put s5)
            have O6 := Lib.hid (st5.own.store (x := .pointer o5) (y := .int .i64 (l2.length : Int)) (z := .int .i64 (R : Int)) st5.var (by decide))
            have B6 := Lib.hid (Below.store (x := .pointer o5) (y := .int .i64 (l2.length : Int)) (z := .int .i64 (R : Int)) st5.bel hlo)
            have HLE1 := Lib.hid (show l1.length ≤ 70000 by have := st5.var.sat.le; omega)
            clear HWA v0 v1 v2 c0 c1 c2 st5 ax5 s5 b5 ST1 AX hl2
            go_wp2_with fail
            obtain ⟨W6, hW6⟩ : ∃ W6, ((w5.setCell ⟨p5, 0, none⟩ (.pointer o5)).setCell ⟨p5, 1, none⟩ (.int .i64 (l2.length : Int))).setCell ⟨p5, 2, none⟩ (.int .i64 (R : Int)) = W6 := ⟨_, rfl⟩
            rw [hW6] at V6 O6 B6 ⊢
            clear hW6 q0 q1 q2 y0 y1 y2 t1 ne1 ne2 lw
            skip
            refine (rkeep_any (byOf x) HBI.out.1 HBI.out.2 O6.out.rd HLE1.out).mono ?_
            rintro e w7 ⟨sv, rfl, gs⟩
            have so := gs.own
            rw [HL2.out] at so
            have v7 := V6.out.step gs.bel
            have ST5 := Lib.hid (show XSt w w7 p5 o5 l2 R sv from ⟨v7, so.mono B6.out.size, B6.out.trans (gs.bel.mono B6.out.size)⟩)
            obtain ⟨q0, q1, q2⟩ := v7.c
            clear so v7 gs V6 O6 B6 HL2
            go_wp2_with fail
            clear q0 q1 q2
            refine (alike_any ST5.out.var.sat ST5.out.own.rd).mono ?_
            rintro e w6 ⟨rfl, d6⟩
            have ST6 := Lib.hid (ST5.out.below d6)
            obtain ⟨q0, q1, q2⟩ := ST6.out.var.c
            clear ST5 d6
            go_wp2_with fail
            refine (room_any ST6.out.var.sat).mono ?_
            rintro e w7 ⟨rfl, d7⟩
            have ST7 := Lib.hid (ST6.out.below d7)
            clear ST6 d7 q0 q1 q2
            go_wp2_with fail
            go_roundg (100 - (j + 1))
            case measure => have := HG.out; omega
            case rel => exact ⟨j + 1, _, _, _, by omega, by omega, rfl, rfl, rfl, ST7.out⟩
          ·
            have n1 : ¬ kd = 1 := fun e => k13 (.inl e)
            have n2 : ¬ kd = 2 := fun e => k13 (.inr (.inl e))
            have n3 : ¬ kd = 3 := fun e => k13 (.inr (.inr e))
            clear k13
            have hwa : ∃ wa, wr.alloc (.cells #[.int .i64 kd, .string k, .int .i64 x] 30) = wa := ⟨_, rfl⟩
            obtain ⟨wa, hwa⟩ := hwa
            have HWA := Lib.hid hwa
            rw [hwa] at ST1 AX
            clear hwa
            go_wp2_with fail
            rw [HWA.out]
            refine (get_any k ST1.out.var.sat).mono ?_
            rintro e w5 ⟨rfl, b5⟩
            have st5 := ST1.out.below b5
            have ax5 := AX.out.below b5 AX.out.lt
            have t1 : w5.cell? ⟨wr.heap.size, 1, none⟩ = some (.string k) := by rw [ax5.cell]; rfl
            obtain ⟨q0, q1, q2⟩ := st5.var.c
            have hle := st5.var.sat.le
            have CRG := Lib.hid (rget_any k st5.own.rd (by omega))
            have ST5 := Lib.hid st5
            clear HWA v0 v1 v2 lw c0 c1 c2 st5 ax5 b5 ST1 AX hle
            generalize (get k l1).getD 0 = gn at *
            generalize (get k l1).isSome = gs at *
            go_wp2_with fail
            refine CRG.out.mono ?_
            rintro e w6 ⟨rfl, rfl⟩
            clear CRG
            go_wp2_with fail
            clear q0 q1 q2 t1 n1 n2 n3
            refine (alike_any ST5.out.var.sat ST5.out.own.rd).mono ?_
            rintro e w6 ⟨rfl, d6⟩
            have ST6 := Lib.hid (ST5.out.below d6)
            obtain ⟨q0, q1, q2⟩ := ST6.out.var.c
            clear ST5 d6
            go_wp2_with fail
            refine (room_any ST6.out.var.sat).mono ?_
            rintro e w7 ⟨rfl, d7⟩
            have ST7 := Lib.hid (ST6.out.below d7)
            clear ST6 d7 q0 q1 q2
            go_wp2_with fail
            go_roundg (100 - (j + 1))
            case measure => have := HG.out; omega
            case rel => exact ⟨j + 1, _, _, _, by omega, by omega, rfl, rfl, rfl, ST7.out⟩
    · have CKN := Lib.hid (fun W (hb : Below wr.heap.size wr W) => keep_nil (KST.out.var.step hb).sat)
      have CEQ := Lib.hid (fun W v (hb : Below wr.heap.size wr W) (hs : SAt W v l1 R) => eq_true_any hs (KST.out.var.step hb).sat)
      have HS := Lib.hid (fun W (hb : Below wr.heap.size wr W) => (KST.out.var.step hb).c)
      have BD := Lib.hid (Below.refl wr.heap.size wr).drew
      have BW := Lib.hid KST.out.bel
      clear KST
      generalize l1.length = nl at *
      by_cases h1 : j < n
      · have h2 : ¬ (j : Int) < 100 := by omega
        have h3 : (j : Int) < (n : Int) := by omega
        clear hlt
        go_wp2_with fail
        go_region_held3 (fun w' => (w'.cell? ⟨p5, 0, none⟩ = some (.pointer o2) ∧ w'.cell? ⟨p5, 1, none⟩ = some (.int .i64 (nl : Int)) ∧ w'.cell? ⟨p5, 2, none⟩ = some (.int .i64 (R : Int))))
          (first | exact HS.out _ BD.out | exact HS.out _ m1 | exact HS.out _ m2 | fail)
          (first
            | (go_at_call 13; (with_reducible refine (CKN.out _ BD.out).mono ?_); rintro e y1 ⟨vv, rfl, sv1, n1⟩; have m1 := BD.out.trans (n1.mono BD.out.size))
            | (go_at_call 20; (with_reducible refine (CEQ.out _ _ m1 sv1).mono ?_); rintro e y2 ⟨rfl, n2⟩; have m2 := m1.trans (n2.mono m1.size))
            | fail)
        all_goals go_wp2_with fail
        go_ret
        exact ⟨rfl, BW.out.trans (m2.mono BW.out.size)⟩
      · have h3 : ¬ (j : Int) < (n : Int) := by omega
        clear hlt
        go_wp2_with fail
        go_region_held3 (fun w' => (w'.cell? ⟨p5, 0, none⟩ = some (.pointer o2) ∧ w'.cell? ⟨p5, 1, none⟩ = some (.int .i64 (nl : Int)) ∧ w'.cell? ⟨p5, 2, none⟩ = some (.int .i64 (R : Int))))
          (first | exact HS.out _ BD.out | exact HS.out _ m1 | exact HS.out _ m2 | fail)
          (first
            | (go_at_call 13; (with_reducible refine (CKN.out _ BD.out).mono ?_); rintro e y1 ⟨vv, rfl, sv1, n1⟩; have m1 := BD.out.trans (n1.mono BD.out.size))
            | (go_at_call 20; (with_reducible refine (CEQ.out _ _ m1 sv1).mono ?_); rintro e y2 ⟨rfl, n2⟩; have m2 := m1.trans (n2.mono m1.size))
            | fail)
        all_goals go_wp2_with fail
        go_ret
        exact ⟨rfl, BW.out.trans (m2.mono BW.out.size)⟩
end Go.Proofs.Ytdpgpdadgcogjaa
