/- The contract of Map of pairs. -/
import Derived.Test.YtenajaiedoigpaaMapB
namespace Go.Proofs.Ytenajaiedoigpaa
open Go.RowKit Go.Lib Plain
attribute [local go_sem ↓] Go.wp_at_zero Go.wp_at_succ

section
variable {w w1 wx : World} {B p room m : Nat}
/-- what Map makes of pairs -/
def MapTo2 (w : World) (room : Nat) (ys : List Int) (e : Ending) (w' : World) : Prop :=
  ∃ q its' m', e = .returned (.pointer (some ⟨q, 0, none⟩)) ∧ its'.map (·.1) = ys ∧ RAt (two (Value.int .i64)) 68 70 w' w.heap.size q room its' m' ∧ Below w.heap.size w w'
/-- the state of the loop -/
structure MSt2 (w wx : World) (V q room j G n : Nat) (its' : List (Int × Nat)) (xs : List (Int × Bool)) : Prop where
  list : RP.Row wx G n n xs
  var : At wx V 24 #[.pointer (some ⟨q, 0, none⟩)]
  made : RAt (two (Value.int .i64)) 68 70 wx w.heap.size q room its' j
  bel : Below w.heap.size w wx
theorem MSt2.below {V q j G n : Nat} {its' : List (Int × Nat)} {xs : List (Int × Bool)} (h : MSt2 w wx V q room j G n its' xs) (hb : Below wx.heap.size wx w1) : MSt2 w w1 V q room j G n its' xs :=
  ⟨h.list.below hb, h.var.below hb h.var.lt, h.made.below hb, h.bel.trans (hb.mono h.bel.size)⟩
theorem MSt2.push {V q j j' G n : Nat} {its' its2 : List (Int × Nat)} {xs : List (Int × Bool)} (h : MSt2 w wx V q room j G n its' xs) (hr : RAt (two (Value.int .i64)) 68 70 w1 w.heap.size q room its2 j') (hc : Chg wx w1 (RBlk 68 70 wx w.heap.size)) : MSt2 w w1 V q room j' G n its2 xs :=
  ⟨h.list.ring hc (by decide) (by decide), h.var.ring hc (by decide) (by decide), hr, h.bel.trans (hc.toBelow h.bel.size (fun k hk e => by have := e.1; omega))⟩
theorem RP.Row.at {G n i : Nat} {xs : List (Int × Bool)} (h : RP.Row w G n n xs) (hi : i < n) (hx : i < xs.length) : w.cell? ⟨G, i * 2, none⟩ = some (.int .i64 (xs.getD i (0, false)).1) ∧ w.cell? ⟨G, i * 2 + 1, none⟩ = some (.bool (xs.getD i (0, false)).2) := by
  obtain ⟨arr, ha, _, hc⟩ := h
  have := hc i (xs.getD i (0, false)) hi (by simp [List.getD, hx])
  rw [ha.cell, ha.cell]
  exact this
set_option maxRecDepth 100000 in
set_option maxHeartbeats 1600000 in
theorem map2_any {its : List ((Int × Bool) × Nat)} (h : RAt three 88 83 w B p room its m) (hn : its.length ≤ 1000) (hr1 : 1 ≤ room) :
    Calls Try.prog 28 #[.pointer (some ⟨p, 0, none⟩), fback] w (MapTo2 w room ((its.map (·.1)).map bk)) := by
  have hmf : ∀ (fn : Fn) (first cap : Array Value) (w : World), (Instr.makeFunc fn first cap).run Try.prog w = .ok (.func fn first cap) w := fun _ _ _ _ => rfl
  have hfe := run_eql_func Try.underlying57 (.func 29) #[] #[]
  obtain ⟨ys, hys⟩ : ∃ ys, (its.map (·.1)).map bk = ys := ⟨_, rfl⟩
  rw [hys]
  have hb0 : Below w.heap.size w (w.alloc (.cells #[.pointer none] 24)) := (Below.refl _ _).alloc (Nat.le_refl _) _
  have hlr := h.length
  have c3 : w.cell? ⟨p, 3, none⟩ = some (.int .i64 (room : Int)) := by obtain ⟨_, _, _, _, _, _, h, _⟩ := h; exact h.f3
  have lp := h.lt
  have av : At (w.alloc (.cells #[.pointer none] 24)) w.heap.size 24 #[.pointer none] := At.new w 24 _
  have hxl : (its.map (·.1)).length = its.length := List.length_map ..
  have H := Lib.hid h; have HB0 := Lib.hid hb0; have AV := Lib.hid av; clear h hb0 av
  have CN := Lib.hid (RI.new_any (w.alloc (.cells #[.pointer none] 24)) room hr1 hlr.2)
  unfold fback
  go_enter_defers Try.func28, Try.ntmps28
  go_wp2_with fail
  refine CN.out.mono ?_
  rintro e w2 ⟨rfl, hr2, hb2⟩
  have hq : w.heap.size ≤ (w.alloc (.cells #[.pointer none] 24)).heap.size := by simp
  have bb2 := HB0.out.trans (hb2.mono hq)
  have av2 := AV.out.below hb2 AV.out.lt
  have ri2 := H.out.below bb2
  have hr2' := hr2.monoB hq
  have cv2 : w2.cell? ⟨w.heap.size, 0, none⟩ = some (.pointer none) := by rw [av2.cell]; rfl
  have fv2 := av2.frozen 0
  generalize (w.alloc (.cells #[.pointer none] 24)).heap.size = q at *
  have cs : Chg w2 (w2.setCell ⟨w.heap.size, 0, none⟩ (.pointer (some ⟨q, 0, none⟩))) (fun k => k = w.heap.size) := (Chg.refl w2 (fun k => k = w.heap.size)).set (p := ⟨w.heap.size, 0, none⟩) (fun _ => rfl) _
  have hoff : ∀ rt pt B, (24 : TypeId) ≠ rt → (24 : TypeId) ≠ pt → ∀ k, RBlk rt pt w2 B k → ¬ k = w.heap.size := by
    rintro rt pt B h1 h2 k ⟨_, cs, hs | hs⟩ rfl
    · exact av2.ne hs h1 rfl
    · exact av2.ne hs h2 rfl
  have ri3 := ri2.chg cs (hoff 88 83 B (by decide) (by decide))
  have rp3 := hr2'.chg cs (hoff 68 70 w.heap.size (by decide) (by decide))
  have av3 : At (w2.setCell ⟨w.heap.size, 0, none⟩ (.pointer (some ⟨q, 0, none⟩))) w.heap.size 24 #[.pointer (some ⟨q, 0, none⟩)] := by simpa using av2.set 0 (.pointer (some ⟨q, 0, none⟩))
  have bb3 := bb2.setCell (p := ⟨w.heap.size, 0, none⟩) (Nat.le_refl _) (.pointer (some ⟨q, 0, none⟩))
  obtain ⟨w3, hw3⟩ : ∃ w3, w2.setCell ⟨w.heap.size, 0, none⟩ (.pointer (some ⟨q, 0, none⟩)) = w3 := ⟨_, rfl⟩
  rw [hw3] at ri3 rp3 av3 bb3
  have cl := RP.list_any ri3
  have HW3 := Lib.hid hw3; have CL := Lib.hid cl; have RP3 := Lib.hid rp3; have AV3 := Lib.hid av3; have BB3 := Lib.hid bb3
  clear hw3 cl rp3 av3 bb3 ri3 cs hoff hr2 hr2' ri2 av2 bb2 hb2 CN AV HB0 c3
  go_wp2_with fail
  rw [HW3.out]
  refine CL.out.mono ?_
  rintro e w4 ⟨rfl, hrow, hb4⟩
  have st0 : MSt2 w w4 w.heap.size q room 0 w3.heap.size its.length [] (its.map (·.1)) :=
    ⟨hrow, AV3.out.below hb4 AV3.out.lt, RP3.out.below hb4, BB3.out.trans (hb4.mono BB3.out.size)⟩
  generalize w3.heap.size = G at *
  have ST0 := Lib.hid st0; have HYS := Lib.hid hys; clear st0 hrow hb4 CL RP3 AV3 BB3 HW3 cv2 fv2 hys
  generalize its.map (·.1) = xs at *
  generalize its.length = n at *
  go_wp2_with fail
  go_loopg [22] n (fun gh s22 wx => ∃ (j : Nat) (its' : List (Int × Nat)), j ≤ n ∧ gh = n - j ∧ s22 = .int .i64 (j : Int) ∧ its'.map (·.1) = (xs.take j).map bk ∧ MSt2 w wx w.heap.size q room j G n its' xs)
  case atStart => exact ⟨0, [], Nat.zero_le _, rfl, rfl, rfl, ST0.out⟩
  case round =>
    obtain ⟨j, its', hj, hg, rfl, hmap, hst⟩ := hrel
    have HG := Lib.hid hg; have KST := Lib.hid hst; have HMAP := Lib.hid hmap; clear hg hst ST0 hmap
    have cv : wr.cell? ⟨w.heap.size, 0, none⟩ = some (.pointer (some ⟨q, 0, none⟩)) := by rw [KST.out.var.cell]; rfl
    have lv := KST.out.var.lt
    by_cases hlt : j < n
    · obtain ⟨hc0, hc1⟩ := KST.out.list.at (i := j) hlt (by omega)
      have htk := take_map bk (0, false) xs (show j < xs.length by omega)
      generalize xs.getD j (0, false) = x at hc0 hc1 htk
      have hll : its'.length = j := by
        have := congrArg List.length HMAP.out
        rw [List.length_map, List.length_map, List.length_take] at this
        omega
      have b3 : (j : Int) < (n : Int) := by omega
      have b4 : (0 : Int) ≤ (j : Int) := by omega
      have HTK := Lib.hid htk; have HLL := Lib.hid hll; clear htk hll
      have hb5 : Below wr.heap.size wr (wr.alloc (.cells #[.int .i64 x.1, .bool x.2] 48)) := (Below.refl _ _).alloc (Nat.le_refl _) _
      have st5 := KST.out.below hb5
      have ax5 : At (wr.alloc (.cells #[.int .i64 x.1, .bool x.2] 48)) wr.heap.size 48 #[.int .i64 x.1, .bool x.2] := At.new wr 48 _
      obtain ⟨wa, hwa⟩ : ∃ wa, wr.alloc (.cells #[.int .i64 x.1, .bool x.2] 48) = wa := ⟨_, rfl⟩
      rw [hwa] at st5 ax5
      have cva : wa.cell? ⟨w.heap.size, 0, none⟩ = some (.pointer (some ⟨q, 0, none⟩)) := by rw [st5.var.cell]; rfl
      have xa0 : wa.cell? ⟨wr.heap.size, 0, none⟩ = some (.int .i64 x.1) := by rw [ax5.cell]; rfl
      have xa1 : wa.cell? ⟨wr.heap.size, 1, none⟩ = some (.bool x.2) := by rw [ax5.cell]; rfl
      have HWA := Lib.hid hwa; have ST5 := Lib.hid st5; have AX5 := Lib.hid ax5; clear hwa st5 ax5 hb5
      have CM := Lib.hid (fun W => back_any x W)
      go_wp2_with fail
      rw [HWA.out]
      generalize wr.heap.size = X at *
      clear HWA
      go_region_held3 (fun w' => w'.cell? ⟨w.heap.size, 0, none⟩ = some (.pointer (some ⟨q, 0, none⟩)) ∧ w'.cell? ⟨X, 0, none⟩ = some (.int .i64 x.1) ∧ w'.cell? ⟨X, 1, none⟩ = some (.bool x.2))
        (first | go_keep | exact S4 | exact S6)
        (first
          | (go_at_call 29; (with_reducible refine (CM.out _).mono ?_); rintro e w4 ⟨rfl, hw4⟩; have hb4 : Below wa.heap.size wa w4 := (by rw [hw4]; exact (below_drewN (Below.refl _ _) 1).alloc (Nat.le_refl _) _); have st4 := ST5.out.below hb4; have ax4 := AX5.out.below hb4 AX5.out.lt; have S4 : w4.cell? ⟨w.heap.size, 0, none⟩ = some (.pointer (some ⟨q, 0, none⟩)) ∧ w4.cell? ⟨X, 0, none⟩ = some (.int .i64 x.1) ∧ w4.cell? ⟨X, 1, none⟩ = some (.bool x.2) := (by rw [st4.var.cell, ax4.cell, ax4.cell]; exact ⟨rfl, rfl, rfl⟩); have ST4 := Lib.hid st4; have AX4 := Lib.hid ax4; clear st4 hw4 hb4 ax4)
          | (go_at_call 11; (with_reducible refine (RI.push_any (bk x) ST4.out.made ST4.out.bel.size (by rw [HLL.out]; omega) (by omega)).mono ?_); rintro e w6 ⟨rfl, hr6, hc6⟩; have st6 := ST4.out.push hr6 hc6; have ax6 := AX4.out.ring hc6 (by decide) (by decide); have S6 : w6.cell? ⟨w.heap.size, 0, none⟩ = some (.pointer (some ⟨q, 0, none⟩)) ∧ w6.cell? ⟨X, 0, none⟩ = some (.int .i64 x.1) ∧ w6.cell? ⟨X, 1, none⟩ = some (.bool x.2) := (by rw [st6.var.cell, ax6.cell, ax6.cell]; exact ⟨rfl, rfl, rfl⟩); have ST6 := Lib.hid st6; clear st6 hr6 hc6 ax6))
      all_goals go_wp2_with fail
      go_roundg (n - (j + 1))
      case measure => have := HG.out; omega
      case rel => exact ⟨j + 1, _, by omega, rfl, by go_num, by rw [List.map_append, HMAP.out, HTK.out]; rfl, ST6.out⟩
    · obtain rfl : j = n := by omega
      have fv := KST.out.var.frozen 0
      have av := KST.out.var
      have hset : At (wr.setCell ⟨w.heap.size, 0, none⟩ (.pointer (some ⟨q, 0, none⟩))) w.heap.size 24 #[.pointer (some ⟨q, 0, none⟩)] := by simpa using av.set 0 (.pointer (some ⟨q, 0, none⟩))
      have hcell : (wr.setCell ⟨w.heap.size, 0, none⟩ (.pointer (some ⟨q, 0, none⟩))).cell? ⟨w.heap.size, 0, none⟩ = some (.pointer (some ⟨q, 0, none⟩)) := by rw [hset.cell]; rfl
      have hmp := HMAP.out
      rw [List.take_of_length_le (by omega)] at hmp
      have cs : Chg wr (wr.setCell ⟨w.heap.size, 0, none⟩ (.pointer (some ⟨q, 0, none⟩))) (fun k => k = w.heap.size) := (Chg.refl wr (fun k => k = w.heap.size)).set (p := ⟨w.heap.size, 0, none⟩) (fun _ => rfl) _
      have hfin : MapTo2 w room ys (.returned (.pointer (some ⟨q, 0, none⟩))) (wr.setCell ⟨w.heap.size, 0, none⟩ (.pointer (some ⟨q, 0, none⟩))) := by
        refine ⟨q, its', j, rfl, hmp.trans HYS.out, KST.out.made.chg cs ?_, KST.out.bel.setCell (Nat.le_refl _) _⟩
        rintro k ⟨_, cs, hs | hs⟩ rfl
        · exact av.ne hs (by decide) rfl
        · exact av.ne hs (by decide) rfl
      have HFIN := Lib.hid hfin
      clear hfin cs hmp hset av
      go_wp2_with fail
      refine leaves_cons (f := 50) (args := #[.pointer (some ⟨w.heap.size, 0, none⟩)]) (by simp) (by simp [go_sem]) ?_
      refine (map2_idle w.heap.size _).mono ?_
      rintro e u' w8 ⟨rfl, rfl, rfl⟩
      simp only [Leaves, settle, results, Try.results28]
      simp [go_sem, hcell]
      exact HFIN.out
set_option maxHeartbeats 400000 in
theorem map1_nil (F : Value) (w : World) : Calls Try.prog 22 #[.pointer none, F] w fun e w' => e = .returned (.pointer none) ∧ Below w.heap.size w w' := by
  go_enter_defers Try.func22, Try.ntmps22
  go_wp2_with fail
  simp [bodyPostD, Leaves, results, Try.results22, go_sem]
  exact (Below.refl _ _).alloc (Nat.le_refl _) _
set_option maxHeartbeats 400000 in
theorem map1_nilf (p : Nat) (w : World) : Calls Try.prog 22 #[.pointer (some ⟨p, 0, none⟩), .nilFunc] w fun e w' => e = .returned (.pointer none) ∧ Below w.heap.size w w' := by
  have hfe := run_eql_nilFunc (P := Try.prog) Try.underlying49
  go_enter_defers Try.func22, Try.ntmps22
  go_wp2_with fail
  simp [bodyPostD, Leaves, results, Try.results22, go_sem]
  exact (Below.refl _ _).alloc (Nat.le_refl _) _
end
end Go.Proofs.Ytenajaiedoigpaa
