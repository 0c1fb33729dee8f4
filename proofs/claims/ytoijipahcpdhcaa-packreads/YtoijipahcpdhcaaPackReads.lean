/- The walk of the statement PackReads. -/
import Derived.Test.YtoijipahcpdhcaaRefC
import Derived.Test.YtoijipahcpdhcaaPackWrites
import Derived.Deep.QuietTactic
import Derived.BigQuiet
namespace Go.Proofs.Ytoijipahcpdhcaa
open Go.RowKit Go.Lib Plain

theorem quietL {P : Program} {f : FuncId} {args : Array Value} {w : World} {n : Nat} {v : Value}
    (h : Calls P f args (w.drewN n) fun e w' => e = .returned v ∧ w.drewN n = w') : Calls P f args (w.drewN n) fun e w'' => e = .returned v ∧ ∃ m, w'' = w.drewN m :=
  h.mono fun _ _ ⟨he, hm⟩ => ⟨he, n, hm.symm⟩
theorem InAt.drewN {w : World} {p : Nat} {s : ByteArray} {bad : Bool} (h : InAt w p s bad) (n : Nat) : InAt (w.drewN n) p s bad := h
theorem RefAt.drewN {w : World} {p : Nat} {s : ByteArray} {bad : Bool} (h : RefAt w p s bad) (n : Nat) : RefAt (w.drewN n) p s bad := h
theorem end_val {w : World} {p : Nat} {s : ByteArray} {bad b : Bool} (h : InAt w p s bad) (hb : (!bad && s.size == 0) = b) : Calls Try.prog 23 #[.pointer (some ⟨p, 0, none⟩)] w fun e w' => e = .returned (.bool b) ∧ w = w' := by
  subst hb; exact end_some h
/-- at a round's head: both have read the same -/
structure RD (w wx : World) (p q : Nat) (s : ByteArray) (bad : Bool) : Prop where
  inn : InAt wx p s bad
  ref : RefAt wx q s bad
  below : Below w.heap.size w wx
  size : s.size ≤ 4096

set_option maxRecDepth 100000 in
set_option maxHeartbeats 3200000 in
theorem packReads_walk (t : ByteArray) (A : Option Addr) (cap : Nat) (acts : List Act) (w : World) (ht : t.size ≤ maxLen) (hok : ∀ y ∈ acts, y.Ok) (hA : ActsAt w w.heap.size A acts) (hlen : acts.length ≤ maxLen) :
    Calls Try.prog 4 #[.string t, .slice A acts.length cap] w fun e w' => e = .returned (.bool true) ∧ Below w.heap.size w w' := by
  unfold maxLen at hlen ht
  have HOK := Lib.hid hok; have HA := Lib.hid hA; clear hok hA
  by_cases hbig : 4096 < t.size
  · go_enter Try.func4, Try.ntmps4
    go_wp2_with (go_at_call 8; refine (awake_any _).mono ?_; rintro e w' ⟨rfl, hb⟩)
    go_ret
    exact ⟨rfl, hb⟩
  go_enter Try.func4, Try.ntmps4
  go_wp2_with fail
  refine (awake_any _).mono ?_
  rintro e w1 ⟨rfl, hb1⟩
  have HB1 := Lib.hid hb1; clear hb1
  go_wp2_with fail
  refine (of_any t _).mono ?_
  rintro e w2 ⟨rfl, h2⟩
  have hz2 : w2.heap.size = w1.heap.size + 1 := by rw [← h2]; simp
  have hst : RD w (w2.alloc (.cells #[.string t, .bool false] 42)) w1.heap.size w2.heap.size t false :=
    ⟨by rw [← h2]; exact (At.new w1 58 _).alloc _, ⟨t, At.new w2 42 _, fun _ => rfl, (fun h => by cases h), by omega⟩, by rw [← h2]; exact (HB1.out.alloc HB1.out.size _).alloc (by have := HB1.out.size; simp; omega) _, by omega⟩
  have HST := Lib.hid hst; have HZ2 := Lib.hid hz2; clear hst hz2 h2
  have hp : w.heap.size ≤ w1.heap.size := HB1.out.size
  have hpq : w1.heap.size ≠ w2.heap.size := by have := HZ2.out; omega
  have hq : w.heap.size ≤ w2.heap.size := by have := HZ2.out; omega
  go_wp2_with fail
  go_loopg [7] acts.length (fun g s7 wx => ∃ (j : Nat) (s : ByteArray) (bad : Bool), j ≤ acts.length ∧ j ≤ 60 ∧ g = acts.length - j ∧ s7 = .int .i64 (j : Int) ∧ RD w wx w1.heap.size w2.heap.size s bad)
  case atStart => exact ⟨0, t, false, Nat.zero_le _, by omega, rfl, rfl, HST.out⟩
  case round =>
    obtain ⟨j, s, bad, hj, hj40, hg, rfl, hrd⟩ := hrel
    have HG := Lib.hid hg; have HR := Lib.hid hrd; clear hg hrd HST
    by_cases hlt : j < acts.length
    · by_cases hlt2 : j < 60
      · obtain ⟨b, off, hAe, hb, hact⟩ := HA.out j hlt
        subst hAe
        have hxok : (acts.getD j noAct).Ok := HOK.out _ (by simp [hlt])
        generalize acts.getD j noAct = x at hact hxok
        have hact2 := hact.keep (HR.out.below.block b hb)
        have c0 := hact2.c0; have c1 := hact2.c1; have c2 := hact2.c2; have c3 := hact2.c3; have c4 := hact2.c4
        have HX := Lib.hid hxok; clear hact hact2 hxok
        have lp := At.lt HR.out.inn
        have lq := HR.out.ref.lt
        by_cases hk1 : x.kind = 1
        · have hk1' : (x.kind == 1) = true := by simpa using hk1
          clear hk1
          have i3 : InAt (wr.alloc (.cells #[.int .i64 x.kind, .int .i64 x.wd, .int .i64 x.n, .int .i64 x.m, .string x.s] 29)).drew w1.heap.size s bad := At.alloc HR.out.inn _
          have r3 : RefAt (wr.alloc (.cells #[.int .i64 x.kind, .int .i64 x.wd, .int .i64 x.n, .int .i64 x.m, .string x.s] 29)).drew w2.heap.size s bad := HR.out.ref.chg (((Chg.refl wr (fun _ => False)).alloc _).drew) (fun h => h)
          have x3 : At (wr.alloc (.cells #[.int .i64 x.kind, .int .i64 x.wd, .int .i64 x.n, .int .i64 x.m, .string x.s] 29)).drew wr.heap.size 29 #[.int .i64 x.kind, .int .i64 x.wd, .int .i64 x.n, .int .i64 x.m, .string x.s] := At.new _ _ _
          have b3 : Below w.heap.size w (wr.alloc (.cells #[.int .i64 x.kind, .int .i64 x.wd, .int .i64 x.n, .int .i64 x.m, .string x.s] 29)).drew := (HR.out.below.alloc HR.out.below.size _).drew
          have I3 := Lib.hid i3; have R3 := Lib.hid r3; have X3 := Lib.hid x3; have B3 := Lib.hid b3; clear i3 r3 x3 b3
          have hsz : s.size ≤ maxLen := by have := HR.out.size; unfold maxLen; omega
          have HSZ := Lib.hid hsz; clear hsz
          have np : ¬ wr.heap.size = w1.heap.size := by omega
          have nq : ¬ wr.heap.size = w2.heap.size := by omega
          go_wp2_with fail
          go_region_held3 (fun w' => w'.cell? ⟨wr.heap.size, 1, none⟩ = some (.int .i64 x.wd))
            (first | go_keep | exact S4 | exact S5)
            (first
              | (go_at_call 16; (with_reducible refine (inum_any x.wd I3.out HSZ.out).mono ?_); rintro e w4 ⟨rfl, hi4, hc4⟩; have I4 := Lib.hid hi4; have X4 := Lib.hid (X3.out.chg hc4 np); have R4 := Lib.hid (R3.out.chg hc4 (Ne.symm hpq)); have B4 := Lib.hid (B3.out.trans (hc4.toBelow B3.out.size (fun k hk e => (by omega)))); have S4 : w4.cell? ⟨wr.heap.size, 1, none⟩ = some (.int .i64 x.wd) := (by rw [At.cell X4.out]; rfl); clear hi4 hc4)
              | (go_at_call 17; (with_reducible refine (rinum_any x.wd R4.out).mono ?_); rintro e w5 ⟨rfl, hi5, hc5⟩; have R6 := Lib.hid hi5; have I6 := Lib.hid (InAt.chg I4.out hc5 hpq); have B6 := Lib.hid (B4.out.trans (hc5.toBelow B4.out.size (fun k hk e => (by omega)))); have S5 : w5.cell? ⟨wr.heap.size, 1, none⟩ = some (.int .i64 x.wd) := (by rw [At.cell (X4.out.chg hc5 nq)]; rfl); clear hi5 hc5))
          have hs6 : (inS x.wd s).size ≤ 4096 := Nat.le_trans (inS_size _ _) HR.out.size
          have HS6 := Lib.hid hs6; clear hs6 S4 S5 I4 X4 R4 B4 I3 R3 X3 B3
          generalize inV x.wd s = iv
          generalize inS x.wd s = s6 at I6 R6 HS6
          generalize inB x.wd s bad = bad6 at I6 R6
          clear HR c0 c1 c2 c3 c4 lp lq np nq
          obtain ⟨S, hat, h0, h1, hz⟩ := R6.out
          have q0 : w5.cell? ⟨w2.heap.size, 0, none⟩ = some (.string S) := by rw [At.cell hat]; rfl
          have q1 : w5.cell? ⟨w2.heap.size, 1, none⟩ = some (.bool bad6) := by rw [At.cell hat]; rfl
          clear hat
          cases bad6
          · obtain rfl := h0 rfl
            clear h0 h1
            by_cases hz0 : S.size = 0
            · have ev : (!false && S.size == 0) = true := by simp [hz0]
              have e1 : ((S.size : Int) == 0) = true := by simp [hz0]
              have EV := Lib.hid ev; clear ev hz0
              go_wp2_with fail
              go_quiet ((first | (go_at_call 20; exact quietL (bad_some (I6.out.drewN _))) | (go_at_call 21; exact quietL (left_some (I6.out.drewN _))) | (go_at_call 22; exact quietL (rleft_any (R6.out.drewN _))) | (go_at_call 23; exact quietL (end_val (I6.out.drewN _) EV.out))))
              go_wp2_with fail
              go_roundg (acts.length - (j + 1))
              case measure => have := HG.out; omega
              case rel => exact ⟨j + 1, S, false, by omega, by omega, rfl, by go_num, ⟨I6.out.drewN _, R6.out.drewN _, ⟨B6.out.os, B6.out.tape, B6.out.output, B6.out.size, B6.out.block⟩, HS6.out⟩⟩
            · have ev : (!false && S.size == 0) = false := by simp [hz0]
              have e1 : ((S.size : Int) == 0) = false := by simp [hz0]
              have EV := Lib.hid ev; clear ev hz0
              go_wp2_with fail
              go_quiet ((first | (go_at_call 20; exact quietL (bad_some (I6.out.drewN _))) | (go_at_call 21; exact quietL (left_some (I6.out.drewN _))) | (go_at_call 22; exact quietL (rleft_any (R6.out.drewN _))) | (go_at_call 23; exact quietL (end_val (I6.out.drewN _) EV.out))))
              go_wp2_with fail
              go_roundg (acts.length - (j + 1))
              case measure => have := HG.out; omega
              case rel => exact ⟨j + 1, S, false, by omega, by omega, rfl, by go_num, ⟨I6.out.drewN _, R6.out.drewN _, ⟨B6.out.os, B6.out.tape, B6.out.output, B6.out.size, B6.out.block⟩, HS6.out⟩⟩
          · obtain rfl := h1 rfl
            clear h0 h1
            have ev : (!true && (⟨#[]⟩ : ByteArray).size == 0) = false := by simp
            have EV := Lib.hid ev; clear ev
            go_wp2_with fail
            go_quiet ((first | (go_at_call 20; exact quietL (bad_some (I6.out.drewN _))) | (go_at_call 21; exact quietL (left_some (I6.out.drewN _))) | (go_at_call 22; exact quietL (rleft_any (R6.out.drewN _))) | (go_at_call 23; exact quietL (end_val (I6.out.drewN _) EV.out))))
            go_wp2_with fail
            go_roundg (acts.length - (j + 1))
            case measure => have := HG.out; omega
            case rel => exact ⟨j + 1, ⟨#[]⟩, true, by omega, by omega, rfl, by go_num, ⟨I6.out.drewN _, R6.out.drewN _, ⟨B6.out.os, B6.out.tape, B6.out.output, B6.out.size, B6.out.block⟩, HS6.out⟩⟩
        · have hk1' : (x.kind == 1) = false := by simpa using hk1
          clear hk1
          have i3 : InAt (wr.alloc (.cells #[.int .i64 x.kind, .int .i64 x.wd, .int .i64 x.n, .int .i64 x.m, .string x.s] 29)).drew w1.heap.size s bad := At.alloc HR.out.inn _
          have r3 : RefAt (wr.alloc (.cells #[.int .i64 x.kind, .int .i64 x.wd, .int .i64 x.n, .int .i64 x.m, .string x.s] 29)).drew w2.heap.size s bad := HR.out.ref.chg (((Chg.refl wr (fun _ => False)).alloc _).drew) (fun h => h)
          have x3 : At (wr.alloc (.cells #[.int .i64 x.kind, .int .i64 x.wd, .int .i64 x.n, .int .i64 x.m, .string x.s] 29)).drew wr.heap.size 29 #[.int .i64 x.kind, .int .i64 x.wd, .int .i64 x.n, .int .i64 x.m, .string x.s] := At.new _ _ _
          have b3 : Below w.heap.size w (wr.alloc (.cells #[.int .i64 x.kind, .int .i64 x.wd, .int .i64 x.n, .int .i64 x.m, .string x.s] 29)).drew := (HR.out.below.alloc HR.out.below.size _).drew
          have I3 := Lib.hid i3; have R3 := Lib.hid r3; have X3 := Lib.hid x3; have B3 := Lib.hid b3; clear i3 r3 x3 b3
          have hsz : s.size ≤ 281474976710656 := by have := HR.out.size; omega
          have HSZ := Lib.hid hsz; clear hsz
          have np : ¬ wr.heap.size = w1.heap.size := by omega
          have nq : ¬ wr.heap.size = w2.heap.size := by omega
          go_wp2_with fail
          go_region_held3 (fun w' => w'.cell? ⟨wr.heap.size, 2, none⟩ = some (.int .i64 x.n))
            (first | go_keep | exact S4 | exact S5)
            (first
              | (go_at_call 18; (with_reducible refine (itext_any x.n I3.out HSZ.out).mono ?_); rintro e w4 ⟨rfl, hi4, hc4⟩; have I4 := Lib.hid hi4; have X4 := Lib.hid (X3.out.chg hc4 np); have R4 := Lib.hid (R3.out.chg hc4 (Ne.symm hpq)); have B4 := Lib.hid (B3.out.trans (hc4.toBelow B3.out.size (fun k hk e => (by omega)))); have S4 : w4.cell? ⟨wr.heap.size, 2, none⟩ = some (.int .i64 x.n) := (by rw [At.cell X4.out]; rfl); clear hi4 hc4)
              | (go_at_call 19; (with_reducible refine (ritext_any x.n R4.out).mono ?_); rintro e w5 ⟨rfl, hi5, hc5⟩; have R6 := Lib.hid hi5; have I6 := Lib.hid (InAt.chg I4.out hc5 hpq); have B6 := Lib.hid (B4.out.trans (hc5.toBelow B4.out.size (fun k hk e => (by omega)))); have S5 : w5.cell? ⟨wr.heap.size, 2, none⟩ = some (.int .i64 x.n) := (by rw [At.cell (X4.out.chg hc5 nq)]; rfl); clear hi5 hc5))
          have hs6 : (tS x.n s).size ≤ 4096 := Nat.le_trans (tS_size _ _) HR.out.size
          have HS6 := Lib.hid hs6; clear hs6 S4 S5 I4 X4 R4 B4 I3 R3 X3 B3
          generalize tV x.n s = iv
          generalize tS x.n s = s6 at I6 R6 HS6
          generalize tB x.n s bad = bad6 at I6 R6
          clear HR c0 c1 c2 c3 c4 lp lq np nq
          obtain ⟨S, hat, h0, h1, hz⟩ := R6.out
          have q0 : w5.cell? ⟨w2.heap.size, 0, none⟩ = some (.string S) := by rw [At.cell hat]; rfl
          have q1 : w5.cell? ⟨w2.heap.size, 1, none⟩ = some (.bool bad6) := by rw [At.cell hat]; rfl
          clear hat
          cases bad6
          · obtain rfl := h0 rfl
            clear h0 h1
            by_cases hz0 : S.size = 0
            · have ev : (!false && S.size == 0) = true := by simp [hz0]
              have e1 : ((S.size : Int) == 0) = true := by simp [hz0]
              have EV := Lib.hid ev; clear ev hz0
              go_wp2_with fail
              go_quiet ((first | (go_at_call 20; exact quietL (bad_some (I6.out.drewN _))) | (go_at_call 21; exact quietL (left_some (I6.out.drewN _))) | (go_at_call 22; exact quietL (rleft_any (R6.out.drewN _))) | (go_at_call 23; exact quietL (end_val (I6.out.drewN _) EV.out))))
              go_wp2_with fail
              go_roundg (acts.length - (j + 1))
              case measure => have := HG.out; omega
              case rel => exact ⟨j + 1, S, false, by omega, by omega, rfl, by go_num, ⟨I6.out.drewN _, R6.out.drewN _, ⟨B6.out.os, B6.out.tape, B6.out.output, B6.out.size, B6.out.block⟩, HS6.out⟩⟩
            · have ev : (!false && S.size == 0) = false := by simp [hz0]
              have e1 : ((S.size : Int) == 0) = false := by simp [hz0]
              have EV := Lib.hid ev; clear ev hz0
              go_wp2_with fail
              go_quiet ((first | (go_at_call 20; exact quietL (bad_some (I6.out.drewN _))) | (go_at_call 21; exact quietL (left_some (I6.out.drewN _))) | (go_at_call 22; exact quietL (rleft_any (R6.out.drewN _))) | (go_at_call 23; exact quietL (end_val (I6.out.drewN _) EV.out))))
              go_wp2_with fail
              go_roundg (acts.length - (j + 1))
              case measure => have := HG.out; omega
              case rel => exact ⟨j + 1, S, false, by omega, by omega, rfl, by go_num, ⟨I6.out.drewN _, R6.out.drewN _, ⟨B6.out.os, B6.out.tape, B6.out.output, B6.out.size, B6.out.block⟩, HS6.out⟩⟩
          · obtain rfl := h1 rfl
            clear h0 h1
            have ev : (!true && (⟨#[]⟩ : ByteArray).size == 0) = false := by simp
            have EV := Lib.hid ev; clear ev
            go_wp2_with fail
            go_quiet ((first | (go_at_call 20; exact quietL (bad_some (I6.out.drewN _))) | (go_at_call 21; exact quietL (left_some (I6.out.drewN _))) | (go_at_call 22; exact quietL (rleft_any (R6.out.drewN _))) | (go_at_call 23; exact quietL (end_val (I6.out.drewN _) EV.out))))
            go_wp2_with fail
            go_roundg (acts.length - (j + 1))
            case measure => have := HG.out; omega
            case rel => exact ⟨j + 1, ⟨#[]⟩, true, by omega, by omega, rfl, by go_num, ⟨I6.out.drewN _, R6.out.drewN _, ⟨B6.out.os, B6.out.tape, B6.out.output, B6.out.size, B6.out.block⟩, HS6.out⟩⟩
      · have hge : (60 : Int) ≤ (j : Int) := by omega
        go_wp2_with (first | (go_at_call 20; refine (bad_nil _).mono ?_; rintro e w' ⟨rfl, rfl⟩) | (go_at_call 16; refine (inum_nil 1 _ (by decide)).mono ?_; rintro e w' ⟨rfl, rfl⟩) | (go_at_call 18; refine (itext_nil 5 _ (by decide)).mono ?_; rintro e w' ⟨rfl, rfl⟩) | (go_at_call 21; refine (left_nil _).mono ?_; rintro e w' ⟨rfl, rfl⟩) | (go_at_call 23; refine (end_nil _).mono ?_; rintro e w' ⟨rfl, rfl⟩))
        go_ret
        exact ⟨rfl, HR.out.below⟩
    · have hge : (acts.length : Int) ≤ (j : Int) := by omega
      go_wp2_with (first | (go_at_call 20; refine (bad_nil _).mono ?_; rintro e w' ⟨rfl, rfl⟩) | (go_at_call 16; refine (inum_nil 1 _ (by decide)).mono ?_; rintro e w' ⟨rfl, rfl⟩) | (go_at_call 18; refine (itext_nil 5 _ (by decide)).mono ?_; rintro e w' ⟨rfl, rfl⟩) | (go_at_call 21; refine (left_nil _).mono ?_; rintro e w' ⟨rfl, rfl⟩) | (go_at_call 23; refine (end_nil _).mono ?_; rintro e w' ⟨rfl, rfl⟩))
      go_ret
      exact ⟨rfl, HR.out.below⟩
end Go.Proofs.Ytoijipahcpdhcaa
