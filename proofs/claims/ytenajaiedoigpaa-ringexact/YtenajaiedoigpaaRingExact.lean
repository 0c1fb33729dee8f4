/- The walk of RingExact: it returns true. -/
import Derived.Test.YtenajaiedoigpaaRefsB
import Derived.Test.YtenajaiedoigpaaRingOrder
namespace Go.Proofs.Ytenajaiedoigpaa
open Go.RowKit Go.Lib Plain

set_option maxHeartbeats 400000 in
theorem push_nil (x : Int) (w : World) : Calls Try.prog 11 #[.pointer none, .int .i64 x] w fun e w' => e = .returned (.bool false) ∧ w = w' := by
  go_enter Try.func11, Try.ntmps11
  go_wp2_with fail
  refine (RI.len_nil w).mono ?_
  rintro e w' ⟨rfl, rfl⟩
  go_wp2_with fail
  refine (RI.room_nil w).mono ?_
  rintro e w' ⟨rfl, rfl⟩
  go_wp2_with fail
  go_ret
  exact ⟨rfl, rfl⟩
set_option maxRecDepth 100000 in
set_option maxHeartbeats 400000 in
theorem list_nil (w : World) : Calls Try.prog 15 #[.pointer none] w fun e w' => e = .returned (.slice (some ⟨w.heap.size, 0, none⟩) 0 0) ∧ Below w.heap.size w w' := by
  obtain ⟨M, hM, hmk⟩ := RI.made_row 0 (by omega)
  have hmk2 : ∀ W : World, (Instr.makeSlice 30 (.int .i64 0) (.int .i64 0)).run Try.prog W = .ok (.slice (some ⟨W.heap.size, 0, none⟩) 0 0) (W.alloc (.cells M 3)) := hmk
  clear hmk hM
  go_enter Try.func15, Try.ntmps15
  go_wp2_with fail
  refine (RI.len_nil w).mono ?_
  rintro e w' ⟨rfl, rfl⟩
  go_wp2_with fail
  go_loopg [10, 4] 0 (fun gh s10 s4 wx => s10 = .int .i64 0 ∧ wx = w.alloc (.cells M 3))
  case atStart => exact ⟨rfl, rfl⟩
  case round =>
    obtain ⟨rfl, rfl⟩ := hrel
    go_wp2_with fail
    go_ret
    exact ⟨rfl, (Below.refl _ _).alloc (Nat.le_refl _) _⟩
/-- the state of the loop: the ring, and the document's row -/
structure ESt (w wx : World) (p k m : Nat) (its : List (Int × Nat)) (vl : Value) : Prop where
  ring : RAt (two (Value.int .i64)) 68 70 wx p p k its m
  l : OwnI wx w.heap.size vl (its.map (·.1))
  chg : Chg w wx (fun i => w.heap.size ≤ i)
  lo : w.heap.size ≤ p
  le : p ≤ wx.heap.size
section
variable {w wx w1 w2 : World} {p k m : Nat} {its its' : List (Int × Nat)} {vl vl' : Value}
theorem ESt.below (h : ESt w wx p k m its vl) (hb : Below wx.heap.size wx w1) : ESt w w1 p k m its vl :=
  ⟨h.ring.below hb, h.l.below hb, h.chg.trans (Chg.ofBelow hb (fun _ => False)) (fun _ _ e => e.elim), h.lo, Nat.le_trans h.le hb.size⟩
/-- the ring has turned; the document's row is another one, made before -/
theorem ESt.turn {m' : Nat} (h : ESt w wx p k m its vl) (ho : OwnI wx w.heap.size vl' (its'.map (·.1))) (hr : RAt (two (Value.int .i64)) 68 70 w1 p p k its' m') (hc : Chg wx w1 (RBlk 68 70 wx p)) : ESt w w1 p k m' its' vl' :=
  ⟨hr, ho.ring hc (by decide) (by decide), h.chg.trans hc (fun i _ e => e.hi h.lo), h.lo, Nat.le_trans h.le hc.size⟩
theorem ESt.list (h : ESt w wx p k m its vl) (hr : RI.Row w1 wx.heap.size its.length its.length (its.map (·.1))) (hb : Below wx.heap.size wx w1) (hn : its.length ≤ 1000) :
    Calls Try.prog 21 #[.slice (some ⟨wx.heap.size, 0, none⟩) its.length its.length, vl] w1 fun e w' => e = .returned (.bool true) ∧ ESt w w' p k m its vl := by
  have h1 := h.below hb
  have hl : (its.map (·.1)).length = its.length := List.length_map ..
  have ho : OwnI w1 wx.heap.size (.slice (some ⟨wx.heap.size, 0, none⟩) its.length its.length) (its.map (·.1)) := by
    rw [← hl] at hr ⊢
    exact hr.own (Nat.le_refl _) (by rw [hl]; omega)
  exact (ints_any ho.sl h1.l.sl (by rw [hl]; omega)).mono (fun e w' h => ⟨h.1, h1.below h.2⟩)
theorem ESt.shape (h : ESt w wx p k m its vl) : ∃ O c, vl = .slice O its.length c := by
  obtain ⟨O, c, e, _⟩ := h.l.sl
  rw [List.length_map] at e
  exact ⟨O, c, e⟩
end
theorem stays_length (by_ : Int) (its : List (Int × Nat)) : (staysI by_ (its.map (·.1))).length = (stays by_ its).length := by rw [← stays_map, List.length_map]

set_option maxRecDepth 100000 in
set_option maxHeartbeats 1600000 in
theorem ringExact_out (z : Int) (V : Value) (w : World) (h : z < 1 ∨ 65536 < z) : Calls Try.prog 3 #[.int .i64 z, V] w fun e w' => e = .returned (.bool true) ∧ Below w.heap.size w w' := by
  have hd : decide (z < 1) = true ∨ (decide (z < 1) = false ∧ decide (65536 < z) = true) := by
    rcases Int.lt_or_le z 1 with h1 | h1
    · exact .inl (by simpa using h1)
    · exact .inr ⟨by simpa using h1, by simp; omega⟩
  have CN := Lib.hid (fun W => RI.new_no W z h); clear h
  rcases hd with hd | ⟨hd, hd2⟩
  all_goals
    go_enter Try.func3, Try.ntmps3
    go_wp2_with fail
    refine (awake_any _).mono ?_
    rintro e w0 ⟨rfl, hb0⟩
    have HB0 := Lib.hid hb0; clear hb0
    go_wp2_with fail
    refine (CN.out _).mono ?_
    rintro e w1 ⟨rfl, rfl⟩
    go_wp2_with fail
    refine (RI.pop_nil _).mono ?_
    rintro e w2 ⟨rfl, hb2⟩
    have HB2 := Lib.hid (HB0.out.trans (hb2.mono HB0.out.size)); clear hb2 HB0
    go_wp2_with fail
    refine (RI.peek_nil _).mono ?_
    rintro e w3 ⟨rfl, hb3⟩
    have HB3 := Lib.hid (HB2.out.trans (hb3.mono HB2.out.size)); clear hb3 HB2
    go_wp2_with (first | (go_at_call 11; refine (push_nil _ _).mono ?_; rintro e w4 ⟨rfl, rfl⟩) | (go_at_call 12; refine (RI.len_nil _).mono ?_; rintro e w4 ⟨rfl, rfl⟩) | (go_at_call 13; refine (RI.room_nil _).mono ?_; rintro e w4 ⟨rfl, rfl⟩) | (go_at_call 14; refine (RI.clear_nil _).mono ?_; rintro e w4 ⟨rfl, rfl⟩) | (go_at_call 15; refine (list_nil _).mono ?_; rintro e w5 ⟨rfl, hb5⟩; have HB5 := Lib.hid (HB3.out.trans (hb5.mono HB3.out.size)); clear hb5))
    go_ret
    exact ⟨rfl, HB5.out⟩

set_option maxRecDepth 100000 in
set_option maxHeartbeats 6400000 in
theorem ringExact_in (k : Nat) (hk1 : 1 ≤ k) (hk2 : k ≤ 65536) (A : Option Addr) (cap : Nat) (acts : List Deed) (w : World) (hai : ∀ y ∈ acts, inI64 y.kind ∧ inI64 y.n) (hA : ActsAt w w.heap.size A acts) (hl : acts.length ≤ maxLen) :
    Calls Try.prog 3 #[.int .i64 (k : Int), .slice A acts.length cap] w fun e w' => e = .returned (.bool true) ∧ Below w.heap.size w w' := by
  unfold maxLen at hl
  have HA := Lib.hid hA; have HAI := Lib.hid hai; clear hA hai
  have g1 : decide ((k : Int) < 1) = false := by simp; omega
  have g2 : decide (65536 < (k : Int)) = false := by simp; omega
  have g3 : ¬ (k : Int) < 1 := by omega
  have g4 : ¬ 65536 < (k : Int) := by omega
  go_enter Try.func3, Try.ntmps3
  go_wp2_with fail
  refine (awake_any _).mono ?_
  rintro e w0 ⟨rfl, hb0⟩
  have HB0 := Lib.hid hb0; clear hb0
  go_wp2_with fail
  refine (RI.new_any w0 k hk1 hk2).mono ?_
  rintro e w1 ⟨rfl, hr1, hb1⟩
  have hw : w.heap.size ≤ w0.heap.size := HB0.out.size
  have hw1 := hb1.size
  have hc1 : Chg w w1 (fun i => w.heap.size ≤ i) := (Chg.ofBelow HB0.out _).trans (Chg.ofBelow hb1 (fun _ => False)) (fun _ _ e => e.elim)
  generalize w0.heap.size = p at *
  have st : ESt w (w1.alloc (.cells #[] 3)) p k 0 [] (.slice (some ⟨w1.heap.size, 0, none⟩) 0 0) := by
    have b1 : Below w1.heap.size w1 (w1.alloc (.cells #[] 3)) := (Below.refl _ _).alloc (Nat.le_refl _) _
    exact ⟨hr1.below b1, own_lit0 w1 (by omega), hc1.alloc _, hw, by simp; omega⟩
  have ST := Lib.hid st; clear st hr1 hb1 hc1 HB0 hw1
  go_wp2_with fail
  go_loopg [10, 11] acts.length (fun gh s10 s11 wx => ∃ (j m : Nat) (its : List (Int × Nat)) (vl : Value), j ≤ acts.length ∧ gh = acts.length - j ∧ s11 = .int .i64 (j : Int) ∧ j ≤ 200 ∧ m ≤ j ∧ its.length ≤ j ∧ vl = s10 ∧ ESt w wx p k m its vl)
  case atStart => exact ⟨0, 0, [], _, Nat.zero_le _, rfl, rfl, by omega, Nat.le_refl _, Nat.le_refl _, rfl, ST.out⟩
  case round =>
    obtain ⟨j, m, its, vl, hj, hg, rfl, hj2, hm, hil, rfl, hst⟩ := hrel
    have HG := Lib.hid hg; have KST := Lib.hid hst; clear hg hst ST
    by_cases hlt : j < acts.length
    · by_cases hlt2 : j < 200
      · have hbw := KST.out.chg.toBelow (Nat.le_refl _) (fun i hi e => by omega)
        obtain ⟨b1, o1, rfl, hb1, hc1, hc2⟩ := (HA.out.keep hbw) j hlt
        have hin := HAI.out (acts.getD j ⟨0, 0⟩) (by simp [hlt])
        generalize acts.getD j ⟨0, 0⟩ = x at hc1 hc2 hin
        obtain ⟨kd, z⟩ := x
        simp only at hc1 hc2
        have hz := hin.2
        simp only at hz
        have HZ := Lib.hid hz
        have b3 : (j : Int) < (acts.length : Int) := by omega
        have b4 : (0 : Int) ≤ (j : Int) := by omega
        have b5 : (j : Int) < 200 := by omega
        have hb2 : Below wr.heap.size wr (wr.alloc (.cells #[.int .i64 kd, .int .i64 z] 33)) := (Below.refl _ _).alloc (Nat.le_refl _) _
        have hst2 := KST.out.below hb2
        have hax : At (wr.alloc (.cells #[.int .i64 kd, .int .i64 z] 33)) wr.heap.size 33 #[.int .i64 kd, .int .i64 z] := At.new wr 33 _
        obtain ⟨wa, hwa⟩ : ∃ wa, wr.alloc (.cells #[.int .i64 kd, .int .i64 z] 33) = wa := ⟨_, rfl⟩
        rw [hwa] at hst2 hax
        have KST2 := Lib.hid hst2; have AX := Lib.hid hax; have HWA := Lib.hid hwa
        clear hbw hin hz hb2 hst2 hax KST hwa
        have hl1000 : its.length ≤ 1000 := by omega
        have hlen := KST2.out.ring.length
        have hmap : (its.map (·.1)).length = its.length := List.length_map ..
        have HMAP := Lib.hid hmap; clear hmap
        have hle := KST2.out.le
        have hlo := KST2.out.lo
        by_cases k1 : kd = 1
        · subst k1
          by_cases hfull : its.length < k
          · have b6 : its.length < k := hfull
            have hlt3 : (its.map (·.1)).length < k := by rw [HMAP.out]; exact hfull
            have crp := rpush_yes z k KST2.out.l hlt3 (by rw [HMAP.out]; omega)
            have CRP := Lib.hid crp; clear crp hlt3
            go_wp2_with fail
            rw [HWA.out]
            refine CRP.out.mono ?_
            rintro e w3 ⟨v3, rfl, ho3, hb3⟩
            have st3 := KST2.out.below hb3
            have x3 := AX.out.below hb3 AX.out.lt
            have cx3 : w3.cell? ⟨wr.heap.size, 1, none⟩ = some (.int .i64 z) := by rw [x3.cell]; rfl
            have cp := RI.push_any z st3.ring st3.le hfull (by omega)
            have ho3' : OwnI w3 w.heap.size v3 ((its ++ [(z, m)]).map (·.1)) := by
              rw [List.map_append]
              exact ho3.mono (by have := KST2.out.chg.size; omega)
            have ST3 := Lib.hid st3; have CP := Lib.hid cp; have HO3 := Lib.hid ho3'; clear st3 x3 cp ho3 ho3' hb3 CRP
            go_wp2_with fail
            refine CP.out.mono ?_
            rintro e w4 ⟨rfl, hr4, hc4⟩
            have st4 := ST3.out.turn HO3.out hr4 hc4
            have hl2 : (its ++ [(z, m)]).length ≤ j + 1 := by simp; omega
            generalize its ++ [(z, m)] = its2 at st4 hl2
            obtain ⟨Of, cf, hef⟩ := st4.shape
            have ST4 := Lib.hid st4; clear st4 hr4 hc4 cx3
            subst hef
            have htl := (show its2.length ≤ 1000 by omega)
            have cli := RI.list_any ST4.out.ring
            have CLI := Lib.hid cli; clear cli
            go_wp2_with fail
            refine CLI.out.mono ?_
            rintro e w5 ⟨rfl, hr5, hb5⟩
            have ci5 := ST4.out.list hr5 hb5 htl
            have CI5 := Lib.hid ci5; clear ci5 hr5 hb5 CLI
            go_wp2_with fail
            refine CI5.out.mono ?_
            rintro e w6 ⟨rfl, hst6⟩
            have cl6 := RI.len_any hst6.ring
            have cr6 := RI.room_any hst6.ring
            have CL6 := Lib.hid cl6; have CR6 := Lib.hid cr6; have ST6 := Lib.hid hst6; clear cl6 cr6 hst6
            go_wp2_with fail
            refine CL6.out.mono ?_
            rintro e w7 ⟨rfl, rfl⟩
            go_wp2_with fail
            refine CR6.out.mono ?_
            rintro e w8 ⟨rfl, rfl⟩
            go_wp2_with fail
            go_roundg (acts.length - (j + 1))
            case measure => have := HG.out; omega
            case rel => exact ⟨j + 1, m + 1, its2, _, by omega, rfl, by go_num, by omega, by omega, by first | omega | (simp; done) | (simp; omega), rfl, ST6.out⟩
          · have cxa : wa.cell? ⟨wr.heap.size, 1, none⟩ = some (.int .i64 z) := by rw [AX.out.cell]; rfl
            have heq : its.length = k := by omega
            have hlt3 : k ≤ (its.map (·.1)).length := by rw [HMAP.out]; omega
            have crp := rpush_no z k KST2.out.l hlt3
            have cp := RI.push_no z KST2.out.ring heq
            obtain ⟨Of, cf, hef⟩ := KST2.out.shape
            have CRP := Lib.hid crp; have CP := Lib.hid cp; have HEQ := Lib.hid heq; clear crp cp hlt3 heq
            subst hef
            go_wp2_with fail
            rw [HWA.out]
            refine CRP.out.mono ?_
            rintro e w3 ⟨rfl, rfl⟩
            go_wp2_with fail
            refine CP.out.mono ?_
            rintro e w4 ⟨rfl, rfl⟩
            have htl := (show its.length ≤ 1000 by omega)
            have cli := RI.list_any KST2.out.ring
            have CLI := Lib.hid cli; clear cli
            go_wp2_with fail
            refine CLI.out.mono ?_
            rintro e w5 ⟨rfl, hr5, hb5⟩
            have ci5 := KST2.out.list hr5 hb5 htl
            have CI5 := Lib.hid ci5; clear ci5 hr5 hb5 CLI
            go_wp2_with fail
            refine CI5.out.mono ?_
            rintro e w6 ⟨rfl, hst6⟩
            have cl6 := RI.len_any hst6.ring
            have cr6 := RI.room_any hst6.ring
            have CL6 := Lib.hid cl6; have CR6 := Lib.hid cr6; have ST6 := Lib.hid hst6; clear cl6 cr6 hst6
            go_wp2_with fail
            refine CL6.out.mono ?_
            rintro e w7 ⟨rfl, rfl⟩
            go_wp2_with fail
            refine CR6.out.mono ?_
            rintro e w8 ⟨rfl, rfl⟩
            go_wp2_with fail
            go_roundg (acts.length - (j + 1))
            case measure => have := HG.out; omega
            case rel => exact ⟨j + 1, m, its, _, by omega, rfl, by go_num, by omega, by omega, by first | omega | (simp; done) | (simp; omega), rfl, ST6.out⟩
        by_cases k2 : kd = 2
        · subst k2
          by_cases hfull : its.length < k
          · have b6 : its.length < k := hfull
            have hlt3 : (its.map (·.1)).length < k := by rw [HMAP.out]; exact hfull
            have crp := rpush_yes z k KST2.out.l hlt3 (by rw [HMAP.out]; omega)
            have CRP := Lib.hid crp; clear crp hlt3
            go_wp2_with fail
            rw [HWA.out]
            refine CRP.out.mono ?_
            rintro e w3 ⟨v3, rfl, ho3, hb3⟩
            have st3 := KST2.out.below hb3
            have x3 := AX.out.below hb3 AX.out.lt
            have cx3 : w3.cell? ⟨wr.heap.size, 1, none⟩ = some (.int .i64 z) := by rw [x3.cell]; rfl
            have cp := RI.push_any z st3.ring st3.le hfull (by omega)
            have ho3' : OwnI w3 w.heap.size v3 ((its ++ [(z, m)]).map (·.1)) := by
              rw [List.map_append]
              exact ho3.mono (by have := KST2.out.chg.size; omega)
            have ST3 := Lib.hid st3; have CP := Lib.hid cp; have HO3 := Lib.hid ho3'; clear st3 x3 cp ho3 ho3' hb3 CRP
            go_wp2_with fail
            refine CP.out.mono ?_
            rintro e w4 ⟨rfl, hr4, hc4⟩
            have st4 := ST3.out.turn HO3.out hr4 hc4
            have hl2 : (its ++ [(z, m)]).length ≤ j + 1 := by simp; omega
            generalize its ++ [(z, m)] = its2 at st4 hl2
            obtain ⟨Of, cf, hef⟩ := st4.shape
            have ST4 := Lib.hid st4; clear st4 hr4 hc4 cx3
            subst hef
            have htl := (show its2.length ≤ 1000 by omega)
            have cli := RI.list_any ST4.out.ring
            have CLI := Lib.hid cli; clear cli
            go_wp2_with fail
            refine CLI.out.mono ?_
            rintro e w5 ⟨rfl, hr5, hb5⟩
            have ci5 := ST4.out.list hr5 hb5 htl
            have CI5 := Lib.hid ci5; clear ci5 hr5 hb5 CLI
            go_wp2_with fail
            refine CI5.out.mono ?_
            rintro e w6 ⟨rfl, hst6⟩
            have cl6 := RI.len_any hst6.ring
            have cr6 := RI.room_any hst6.ring
            have CL6 := Lib.hid cl6; have CR6 := Lib.hid cr6; have ST6 := Lib.hid hst6; clear cl6 cr6 hst6
            go_wp2_with fail
            refine CL6.out.mono ?_
            rintro e w7 ⟨rfl, rfl⟩
            go_wp2_with fail
            refine CR6.out.mono ?_
            rintro e w8 ⟨rfl, rfl⟩
            go_wp2_with fail
            go_roundg (acts.length - (j + 1))
            case measure => have := HG.out; omega
            case rel => exact ⟨j + 1, m + 1, its2, _, by omega, rfl, by go_num, by omega, by omega, by first | omega | (simp; done) | (simp; omega), rfl, ST6.out⟩
          · have cxa : wa.cell? ⟨wr.heap.size, 1, none⟩ = some (.int .i64 z) := by rw [AX.out.cell]; rfl
            have heq : its.length = k := by omega
            have hlt3 : k ≤ (its.map (·.1)).length := by rw [HMAP.out]; omega
            have crp := rpush_no z k KST2.out.l hlt3
            have cp := RI.push_no z KST2.out.ring heq
            obtain ⟨Of, cf, hef⟩ := KST2.out.shape
            have CRP := Lib.hid crp; have CP := Lib.hid cp; have HEQ := Lib.hid heq; clear crp cp hlt3 heq
            subst hef
            go_wp2_with fail
            rw [HWA.out]
            refine CRP.out.mono ?_
            rintro e w3 ⟨rfl, rfl⟩
            go_wp2_with fail
            refine CP.out.mono ?_
            rintro e w4 ⟨rfl, rfl⟩
            have htl := (show its.length ≤ 1000 by omega)
            have cli := RI.list_any KST2.out.ring
            have CLI := Lib.hid cli; clear cli
            go_wp2_with fail
            refine CLI.out.mono ?_
            rintro e w5 ⟨rfl, hr5, hb5⟩
            have ci5 := KST2.out.list hr5 hb5 htl
            have CI5 := Lib.hid ci5; clear ci5 hr5 hb5 CLI
            go_wp2_with fail
            refine CI5.out.mono ?_
            rintro e w6 ⟨rfl, hst6⟩
            have cl6 := RI.len_any hst6.ring
            have cr6 := RI.room_any hst6.ring
            have CL6 := Lib.hid cl6; have CR6 := Lib.hid cr6; have ST6 := Lib.hid hst6; clear cl6 cr6 hst6
            go_wp2_with fail
            refine CL6.out.mono ?_
            rintro e w7 ⟨rfl, rfl⟩
            go_wp2_with fail
            refine CR6.out.mono ?_
            rintro e w8 ⟨rfl, rfl⟩
            go_wp2_with fail
            go_roundg (acts.length - (j + 1))
            case measure => have := HG.out; omega
            case rel => exact ⟨j + 1, m, its, _, by omega, rfl, by go_num, by omega, by omega, by first | omega | (simp; done) | (simp; omega), rfl, ST6.out⟩
        by_cases k3 : kd = 3
        · subst k3
          cases its with
          | nil =>
            have crp := rpop_none KST2.out.l
            have cp := RI.pop_none KST2.out.ring
            obtain ⟨Of, cf, hef⟩ := KST2.out.shape
            have CRP := Lib.hid crp; have CP := Lib.hid cp; clear crp cp
            subst hef
            go_wp2_with fail
            rw [HWA.out]
            refine CRP.out.mono ?_
            rintro e w3 ⟨rfl, rfl⟩
            go_wp2_with fail
            refine CP.out.mono ?_
            rintro e w4 ⟨rfl, hb4⟩
            have ST4 := Lib.hid (KST2.out.below hb4); clear hb4
            have htl := (show ([] : List (Int × Nat)).length ≤ 1000 by simp)
            have cli := RI.list_any ST4.out.ring
            have CLI := Lib.hid cli; clear cli
            go_wp2_with fail
            refine CLI.out.mono ?_
            rintro e w5 ⟨rfl, hr5, hb5⟩
            have ci5 := ST4.out.list hr5 hb5 htl
            have CI5 := Lib.hid ci5; clear ci5 hr5 hb5 CLI
            go_wp2_with fail
            refine CI5.out.mono ?_
            rintro e w6 ⟨rfl, hst6⟩
            have cl6 := RI.len_any hst6.ring
            have cr6 := RI.room_any hst6.ring
            have CL6 := Lib.hid cl6; have CR6 := Lib.hid cr6; have ST6 := Lib.hid hst6; clear cl6 cr6 hst6
            go_wp2_with fail
            refine CL6.out.mono ?_
            rintro e w7 ⟨rfl, rfl⟩
            go_wp2_with fail
            refine CR6.out.mono ?_
            rintro e w8 ⟨rfl, rfl⟩
            go_wp2_with fail
            go_roundg (acts.length - (j + 1))
            case measure => have := HG.out; omega
            case rel => exact ⟨j + 1, m, [], _, by omega, rfl, by go_num, by omega, by omega, by first | omega | (simp; done) | (simp; omega), rfl, ST6.out⟩
          | cons y rest =>
            obtain ⟨y, ny⟩ := y
            have hrl : rest.length + 1 ≤ j := by simpa using hil
            have crp := rpop_some (x := y) (zs := rest.map (·.1)) KST2.out.l (by rw [List.length_map]; omega)
            have CRP := Lib.hid crp; clear crp
            go_wp2_with fail
            rw [HWA.out]
            refine CRP.out.mono ?_
            rintro e w3 ⟨v3, rfl, ho3, hb3⟩
            have st3 := KST2.out.below hb3
            have cp := RI.pop_some st3.ring
            have ho3' : OwnI w3 w.heap.size v3 (rest.map (·.1)) := ho3.mono (by have := KST2.out.chg.size; omega)
            have ST3 := Lib.hid st3; have CP := Lib.hid cp; have HO3 := Lib.hid ho3'; clear st3 cp ho3 ho3' hb3 CRP
            go_wp2_with fail
            refine CP.out.mono ?_
            rintro e w4 ⟨rfl, hr4, hc4⟩
            have st4 := ST3.out.turn HO3.out hr4 hc4
            obtain ⟨Of, cf, hef⟩ := st4.shape
            have ST4 := Lib.hid st4; clear st4 hr4 hc4
            subst hef
            have htl := (show rest.length ≤ 1000 by omega)
            have cli := RI.list_any ST4.out.ring
            have CLI := Lib.hid cli; clear cli
            go_wp2_with fail
            refine CLI.out.mono ?_
            rintro e w5 ⟨rfl, hr5, hb5⟩
            have ci5 := ST4.out.list hr5 hb5 htl
            have CI5 := Lib.hid ci5; clear ci5 hr5 hb5 CLI
            go_wp2_with fail
            refine CI5.out.mono ?_
            rintro e w6 ⟨rfl, hst6⟩
            have cl6 := RI.len_any hst6.ring
            have cr6 := RI.room_any hst6.ring
            have CL6 := Lib.hid cl6; have CR6 := Lib.hid cr6; have ST6 := Lib.hid hst6; clear cl6 cr6 hst6
            go_wp2_with fail
            refine CL6.out.mono ?_
            rintro e w7 ⟨rfl, rfl⟩
            go_wp2_with fail
            refine CR6.out.mono ?_
            rintro e w8 ⟨rfl, rfl⟩
            go_wp2_with fail
            go_roundg (acts.length - (j + 1))
            case measure => have := HG.out; omega
            case rel => exact ⟨j + 1, m, rest, _, by omega, rfl, by go_num, by omega, by omega, by first | omega | (simp; done) | (simp; omega), rfl, ST6.out⟩
        by_cases k4 : kd = 4
        · subst k4
          cases its with
          | nil =>
            have crp := rpop_none KST2.out.l
            have cp := RI.peek_none KST2.out.ring
            obtain ⟨Of, cf, hef⟩ := KST2.out.shape
            have CRP := Lib.hid crp; have CP := Lib.hid cp; clear crp cp
            subst hef
            go_wp2_with fail
            rw [HWA.out]
            refine CRP.out.mono ?_
            rintro e w3 ⟨rfl, rfl⟩
            go_wp2_with fail
            refine CP.out.mono ?_
            rintro e w4 ⟨rfl, hb4⟩
            have ST4 := Lib.hid (KST2.out.below hb4); clear hb4
            have htl := (show ([] : List (Int × Nat)).length ≤ 1000 by simp)
            have cli := RI.list_any ST4.out.ring
            have CLI := Lib.hid cli; clear cli
            go_wp2_with fail
            refine CLI.out.mono ?_
            rintro e w5 ⟨rfl, hr5, hb5⟩
            have ci5 := ST4.out.list hr5 hb5 htl
            have CI5 := Lib.hid ci5; clear ci5 hr5 hb5 CLI
            go_wp2_with fail
            refine CI5.out.mono ?_
            rintro e w6 ⟨rfl, hst6⟩
            have cl6 := RI.len_any hst6.ring
            have cr6 := RI.room_any hst6.ring
            have CL6 := Lib.hid cl6; have CR6 := Lib.hid cr6; have ST6 := Lib.hid hst6; clear cl6 cr6 hst6
            go_wp2_with fail
            refine CL6.out.mono ?_
            rintro e w7 ⟨rfl, rfl⟩
            go_wp2_with fail
            refine CR6.out.mono ?_
            rintro e w8 ⟨rfl, rfl⟩
            go_wp2_with fail
            go_roundg (acts.length - (j + 1))
            case measure => have := HG.out; omega
            case rel => exact ⟨j + 1, m, [], _, by omega, rfl, by go_num, by omega, by omega, by first | omega | (simp; done) | (simp; omega), rfl, ST6.out⟩
          | cons y rest =>
            obtain ⟨y, ny⟩ := y
            have crp := rpop_some (x := y) (zs := rest.map (·.1)) KST2.out.l (by rw [List.length_map]; simp at hil; omega)
            have CRP := Lib.hid crp; clear crp
            generalize hcons : (y, ny) :: rest = its3 at *
            have HC := Lib.hid hcons; clear hcons
            obtain ⟨Of, cf, hef⟩ := KST2.out.shape
            subst hef
            go_wp2_with fail
            rw [HWA.out]
            refine CRP.out.mono ?_
            rintro e w3 ⟨v3, rfl, ho3, hb3⟩
            have st3 := KST2.out.below hb3
            have r3 := st3.ring
            rw [← HC.out] at r3
            have cp := RI.peek_some r3
            have ST3 := Lib.hid st3; have CP := Lib.hid cp; clear st3 cp ho3 hb3 CRP r3
            go_wp2_with fail
            refine CP.out.mono ?_
            rintro e w4 ⟨rfl, q4, hw4⟩
            have st4 : ESt w w4 p k m its3 _ := ST3.out.below (by rw [hw4]; exact below_drewN (Below.refl _ _) q4)
            have ST4 := Lib.hid st4; clear st4 hw4
            have htl := (show its3.length ≤ 1000 by omega)
            have cli := RI.list_any ST4.out.ring
            have CLI := Lib.hid cli; clear cli
            go_wp2_with fail
            refine CLI.out.mono ?_
            rintro e w5 ⟨rfl, hr5, hb5⟩
            have ci5 := ST4.out.list hr5 hb5 htl
            have CI5 := Lib.hid ci5; clear ci5 hr5 hb5 CLI
            go_wp2_with fail
            refine CI5.out.mono ?_
            rintro e w6 ⟨rfl, hst6⟩
            have cl6 := RI.len_any hst6.ring
            have cr6 := RI.room_any hst6.ring
            have CL6 := Lib.hid cl6; have CR6 := Lib.hid cr6; have ST6 := Lib.hid hst6; clear cl6 cr6 hst6
            go_wp2_with fail
            refine CL6.out.mono ?_
            rintro e w7 ⟨rfl, rfl⟩
            go_wp2_with fail
            refine CR6.out.mono ?_
            rintro e w8 ⟨rfl, rfl⟩
            go_wp2_with fail
            go_roundg (acts.length - (j + 1))
            case measure => have := HG.out; omega
            case rel => exact ⟨j + 1, m, its3, _, by omega, rfl, by go_num, by omega, by omega, by first | omega | (simp; done) | (simp; omega), rfl, ST6.out⟩
        by_cases k5 : kd = 5
        · subst k5
          obtain ⟨d, hd1, hd2, hd0⟩ := room_of z 2 3 (by omega) (by omega) (by omega)
          have hd : wrap64 (2 + wrap64 ((IntKind.u64.wrap z).tmod 3)) = (d : Int) := hd0
          have HD := Lib.hid hd; clear hd hd0
          have hmf : ∀ (fn : Fn) (first cap : Array Value) (w : World), (Instr.makeFunc fn first cap).run Try.prog w = .ok (.func fn first cap) w := fun _ _ _ _ => rfl
          have crp := rdrop_any (d : Int) (by omega) (by omega) KST2.out.l (by rw [HMAP.out]; omega)
          rw [← stays_map] at crp
          obtain ⟨Of, cf, hef⟩ := KST2.out.shape
          have hsl : (stays (d : Int) its).length ≤ its.length := List.length_filter_le _ _
          have CRP := Lib.hid crp; clear crp
          subst hef
          go_wp2_with fail
          rw [HD.out, HWA.out]
          refine CRP.out.mono ?_
          rintro e w3 ⟨v3, rfl, ho3, hb3⟩
          have st3 := KST2.out.below hb3
          have cp := drop_any st3.ring (d : Int) (by omega) (by omega) st3.le
          have ho3' : OwnI w3 w.heap.size v3 ((stays (d : Int) its).map (·.1)) := ho3.mono (by have := KST2.out.chg.size; omega)
          obtain ⟨O3, c3, he3, _⟩ := ho3'.sl
          rw [List.length_map] at he3
          have ST3 := Lib.hid st3; have CP := Lib.hid cp; have HO3 := Lib.hid ho3'; clear st3 cp ho3 ho3' hb3 CRP
          subst he3
          unfold DropTo fodd at CP
          generalize hsi : stays (d : Int) its = its' at *
          have HSI := Lib.hid hsi; clear hsi
          go_wp2_with fail
          refine CP.out.mono ?_
          rintro e w4 ⟨rfl, hr4, hc4⟩
          have ST4 := Lib.hid (ST3.out.turn HO3.out hr4 hc4); clear hr4 hc4
          have htl := (show its'.length ≤ 1000 by omega)
          have cli := RI.list_any ST4.out.ring
          have CLI := Lib.hid cli; clear cli
          go_wp2_with fail
          refine CLI.out.mono ?_
          rintro e w5 ⟨rfl, hr5, hb5⟩
          have ci5 := ST4.out.list hr5 hb5 htl
          have CI5 := Lib.hid ci5; clear ci5 hr5 hb5 CLI
          go_wp2_with fail
          refine CI5.out.mono ?_
          rintro e w6 ⟨rfl, hst6⟩
          have cl6 := RI.len_any hst6.ring
          have cr6 := RI.room_any hst6.ring
          have CL6 := Lib.hid cl6; have CR6 := Lib.hid cr6; have ST6 := Lib.hid hst6; clear cl6 cr6 hst6
          go_wp2_with fail
          refine CL6.out.mono ?_
          rintro e w7 ⟨rfl, rfl⟩
          go_wp2_with fail
          refine CR6.out.mono ?_
          rintro e w8 ⟨rfl, rfl⟩
          go_wp2_with fail
          go_roundg (acts.length - (j + 1))
          case measure => have := HG.out; omega
          case rel => exact ⟨j + 1, m, its', _, by omega, rfl, by go_num, by omega, by omega, by first | omega | (simp; done) | (simp; omega), rfl, ST6.out⟩
        by_cases k6 : kd = 6
        · subst k6
          have cp := RI.clear_any KST2.out.ring
          obtain ⟨Of, cf, hef⟩ := KST2.out.shape
          have CP := Lib.hid cp; clear cp
          subst hef
          go_wp2_with fail
          rw [HWA.out]
          refine CP.out.mono ?_
          rintro e w4 ⟨rfl, hr4, hc4⟩
          have hb5 : Below w4.heap.size w4 (w4.alloc (.cells #[] 3)) := (Below.refl _ _).alloc (Nat.le_refl _) _
          have hs4 : w.heap.size ≤ w4.heap.size := by have := KST2.out.chg.size; have := hc4.size; omega
          have st4 : ESt w (w4.alloc (.cells #[] 3)) p k m [] (.slice (some ⟨w4.heap.size, 0, none⟩) 0 0) :=
            ⟨hr4.below hb5, own_lit0 w4 hs4, (KST2.out.chg.trans hc4 (fun i _ e => e.hi KST2.out.lo)).alloc _, KST2.out.lo, Nat.le_trans (Nat.le_trans KST2.out.le hc4.size) (by simp)⟩
          obtain ⟨w4b, hw4b⟩ : ∃ w4b, w4.alloc (.cells #[] 3) = w4b := ⟨_, rfl⟩
          rw [hw4b] at st4
          have ST4 := Lib.hid st4; have HW4 := Lib.hid hw4b; clear st4 hr4 hc4 hb5 hw4b
          have htl := (show ([] : List (Int × Nat)).length ≤ 1000 by simp)
          have cli := RI.list_any ST4.out.ring
          have CLI := Lib.hid cli; clear cli
          go_wp2_with fail
          rw [HW4.out]
          refine CLI.out.mono ?_
          rintro e w5 ⟨rfl, hr5, hb5⟩
          have ci5 := ST4.out.list hr5 hb5 htl
          have CI5 := Lib.hid ci5; clear ci5 hr5 hb5 CLI
          go_wp2_with fail
          refine CI5.out.mono ?_
          rintro e w6 ⟨rfl, hst6⟩
          have cl6 := RI.len_any hst6.ring
          have cr6 := RI.room_any hst6.ring
          have CL6 := Lib.hid cl6; have CR6 := Lib.hid cr6; have ST6 := Lib.hid hst6; clear cl6 cr6 hst6
          go_wp2_with fail
          refine CL6.out.mono ?_
          rintro e w7 ⟨rfl, rfl⟩
          go_wp2_with fail
          refine CR6.out.mono ?_
          rintro e w8 ⟨rfl, rfl⟩
          go_wp2_with fail
          go_roundg (acts.length - (j + 1))
          case measure => have := HG.out; omega
          case rel => exact ⟨j + 1, m, [], _, by omega, rfl, by go_num, by omega, by omega, by first | omega | (simp; done) | (simp; omega), rfl, ST6.out⟩
        have q1 : (kd == 1) = false := beq_eq_false_iff_ne.2 k1
        have q2 : (kd == 2) = false := beq_eq_false_iff_ne.2 k2
        have q3 : (kd == 3) = false := beq_eq_false_iff_ne.2 k3
        have q4 : (kd == 4) = false := beq_eq_false_iff_ne.2 k4
        have q5 : (kd == 5) = false := beq_eq_false_iff_ne.2 k5
        have q6 : (kd == 6) = false := beq_eq_false_iff_ne.2 k6
        obtain ⟨Of, cf, hef⟩ := KST2.out.shape
        subst hef
        have htl := (show its.length ≤ 1000 by omega)
        have cli := RI.list_any KST2.out.ring
        have CLI := Lib.hid cli; clear cli
        go_wp2_with fail
        rw [HWA.out]
        refine CLI.out.mono ?_
        rintro e w5 ⟨rfl, hr5, hb5⟩
        have ci5 := KST2.out.list hr5 hb5 htl
        have CI5 := Lib.hid ci5; clear ci5 hr5 hb5 CLI
        go_wp2_with fail
        refine CI5.out.mono ?_
        rintro e w6 ⟨rfl, hst6⟩
        have cl6 := RI.len_any hst6.ring
        have cr6 := RI.room_any hst6.ring
        have CL6 := Lib.hid cl6; have CR6 := Lib.hid cr6; have ST6 := Lib.hid hst6; clear cl6 cr6 hst6
        go_wp2_with fail
        refine CL6.out.mono ?_
        rintro e w7 ⟨rfl, rfl⟩
        go_wp2_with fail
        refine CR6.out.mono ?_
        rintro e w8 ⟨rfl, rfl⟩
        go_wp2_with fail
        go_roundg (acts.length - (j + 1))
        case measure => have := HG.out; omega
        case rel => exact ⟨j + 1, m, its, _, by omega, rfl, by go_num, by omega, by omega, by first | omega | (simp; done) | (simp; omega), rfl, ST6.out⟩
      · have e5 : decide ((j : Int) < 200) = false := by simp; omega
        have hn5 : ¬ (j : Int) < 200 := by omega
        go_wp2_with fail
        go_ret
        exact ⟨rfl, KST.out.chg.toBelow (Nat.le_refl _) (fun i hi e => by omega)⟩
    · go_wp2_with fail
      go_ret
      exact ⟨rfl, KST.out.chg.toBelow (Nat.le_refl _) (fun i hi e => by omega)⟩
end Go.Proofs.Ytenajaiedoigpaa
