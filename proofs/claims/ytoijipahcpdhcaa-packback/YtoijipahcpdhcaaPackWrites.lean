/- The walk of the statement PackWrites. -/
import Derived.Test.YtoijipahcpdhcaaActs
namespace Go.Proofs.Ytoijipahcpdhcaa
open Go.RowKit Go.Lib Plain

/-- at a round's head: the Out holds what is wanted -/
structure WR (w wx : World) (p : Nat) (want : List UInt8) (j : Nat) (v : Value) : Prop where
  out : Out wx w.heap.size p v want
  below : Below w.heap.size w wx
  len : want.length ≤ j * 2000

theorem Out.below {w w' : World} {B p : Nat} {v : Value} {bs : List UInt8} (h : Out w B p v bs) (hb : Below w.heap.size w w') : Out w' B p v bs :=
  h.chg (Chg.ofBelow hb (fun _ => False)) (fun h => h) (fun _ _ h => h)
theorem okNums_two (wd n m : Int) : okNums wd [n, m] = (okNums wd [n] && okNums wd [m]) := by
  unfold okNums
  cases wide wd <;> simp
theorem text_add3 (a b c : List UInt8) : textOf a ++ textOf b ++ textOf c = textOf (a ++ b ++ c) := by
  apply ByteArray.ext; apply Array.ext'; simp [textOf]
theorem text_add2 (a b : List UInt8) : textOf a ++ textOf b = textOf (a ++ b) := by
  apply ByteArray.ext; apply Array.ext'; simp [textOf]
theorem nums_two (wd n m : Int) : nums wd [n, m] = num wd n ++ num wd m := by simp [nums]
set_option maxHeartbeats 400000 in
theorem text_nil (s : ByteArray) (w : World) : Calls Try.prog 12 #[.pointer none, .string s] w fun e w' => e = .returned (.bool false) ∧ w.alloc (.cells #[.int .i64 s.size] 3) = w' := by
  go_enter Try.func12, Try.ntmps12
  go_wp2_with (go_at_call 10; refine (num_nil _ _ _).mono ?_; rintro e w' ⟨rfl, rfl⟩)
  go_ret
  exact ⟨rfl, rfl⟩
theorem made_big : ∃ (M : Array Value) (N : Nat), N = 65536 ∧ M.toList = byteCells (List.replicate N 0) ∧ ∀ W : World, (Instr.makeSlice 25 (.int .i64 65536) (.int .i64 65536)).run Try.prog W = .ok (.slice (some ⟨W.heap.size, 0, none⟩) N N) (W.alloc (.cells M 5)) := by
  obtain ⟨i0, hi0, hz0, hz1, hz2⟩ := info_parts info5
  obtain ⟨N, hN⟩ : ∃ N : Nat, N = 65536 := ⟨_, rfl⟩
  refine ⟨madeCells (Value.int .u8 0).cells N, N, hN, ?_, fun W => ?_⟩
  · rw [show (Value.int .u8 0).cells = #[.int .u8 0] from rfl, toList_madeCells_one]
    simp [byteCells]
  · have h := run_make (P := Try.prog) W 25 5 i0 (.int .u8 0) Try.underlying25 hi0 hz0 .i64 .i64 (N : Int) (N : Int) (by omega) (by omega) (by rw [hz2]; omega) (by omega)
    rw [hz1, Nat.mul_one, Int.toNat_natCast] at h
    have e : (N : Int) = 65536 := by omega
    rw [e] at h
    exact h
def xcells (x : Act) : Array Value := #[.int .i64 x.kind, .int .i64 x.wd, .int .i64 x.n, .int .i64 x.m, .string x.s]

set_option maxRecDepth 100000 in
set_option maxHeartbeats 3200000 in
theorem packWrites_walk (A : Option Addr) (cap : Nat) (acts : List Act) (w : World) (hok : ∀ y ∈ acts, y.Ok) (hA : ActsAt w w.heap.size A acts) (hlen : acts.length ≤ maxLen) :
    Calls Try.prog 3 #[.slice A acts.length cap] w fun e w' => e = .returned (.bool true) ∧ Below w.heap.size w w' := by
  unfold maxLen at hlen
  have HOK := Lib.hid hok; have HA := Lib.hid hA; clear hok hA
  go_enter Try.func3, Try.ntmps3
  go_wp2_with fail
  refine (awake_any _).mono ?_
  rintro e w1 ⟨rfl, hb1⟩
  have HB1 := Lib.hid hb1; clear hb1
  go_wp2_with fail
  go_loopg [4, 5] acts.length (fun g s4 s5 wx => ∃ (j : Nat) (want : List UInt8) (v : Value), j ≤ acts.length ∧ j ≤ 40 ∧ g = acts.length - j ∧ s5 = .int .i64 (j : Int) ∧ s4 = .string (textOf want) ∧ WR w wx w1.heap.size want j v)
  case atStart => exact ⟨0, [], _, Nat.zero_le _, by omega, rfl, rfl, rfl, ⟨Out.new w1 w.heap.size HB1.out.size, HB1.out.alloc HB1.out.size _, by simp⟩⟩
  case round =>
    obtain ⟨j, want, v, hj, hj40, hg, rfl, rfl, hwr⟩ := hrel
    have HG := Lib.hid hg; have HW := Lib.hid hwr; clear hg hwr
    by_cases hlt : j < acts.length
    · by_cases hlt2 : j < 40
      · obtain ⟨b, off, hAe, hb, hact⟩ := HA.out j hlt
        subst hAe
        have hxok : (acts.getD j noAct).Ok := HOK.out _ (by simp [hlt])
        generalize acts.getD j noAct = x at hact hxok
        have hact2 := hact.keep (HW.out.below.block b hb)
        have c0 := hact2.c0; have c1 := hact2.c1; have c2 := hact2.c2; have c3 := hact2.c3; have c4 := hact2.c4
        have HX := Lib.hid hxok; clear hact hact2 hxok
        have hsz : (textOf want).size ≤ 80000 := by rw [textOf_size]; have := HW.out.len; omega
        have hp := HW.out.out.at_.lt
        by_cases hbig : 1024 < x.s.size
        · go_wp2_with fail
          go_ret
          exact ⟨rfl, HW.out.below.alloc HW.out.below.size _⟩
        by_cases hk1 : x.kind = 1
        · have hk1' : (x.kind == 1) = true := by simpa using hk1
          clear hk1
          -- the two numbers by the document
          go_wp2_with fail
          refine (rnum_any x.wd x.n _ HX.out.n).mono ?_
          rintro e w2 ⟨rfl, hb2⟩
          have hx2 : At w2 wr.heap.size 29 (xcells x) := (At.new wr 29 (xcells x)).below hb2 (by simp)
          have k0 := At.cell hx2 0; have k1 := At.cell hx2 1; have k2 := At.cell hx2 2; have k3 := At.cell hx2 3; have k4 := At.cell hx2 4
          simp only [xcells] at k0 k1 k2 k3 k4
          have HB2 := Lib.hid hb2; have HX2 := Lib.hid hx2; clear hb2 hx2
          go_wp2_with fail
          refine (rnum_any x.wd x.m _ HX.out.m).mono ?_
          rintro e w3 ⟨rfl, hb3⟩
          have hx3 : At w3 wr.heap.size 29 (xcells x) := HX2.out.below hb3 (At.lt HX2.out)
          clear k0 k1 k2 k3 k4
          have k0 := At.cell hx3 0; have k1 := At.cell hx3 1; have k2 := At.cell hx3 2; have k3 := At.cell hx3 3; have k4 := At.cell hx3 4
          simp only [xcells] at k0 k1 k2 k3 k4
          have HB3 := Lib.hid hb3; clear hb3 hx3
          have o3 : Out w3 w.heap.size w1.heap.size v want := (((HW.out.out.alloc (.cells (xcells x) 29)).below HB2.out).below HB3.out)
          have z3 : w.heap.size ≤ w3.heap.size := Nat.le_trans HW.out.below.size (Nat.le_trans (by simp) (Nat.le_trans HB2.out.size HB3.out.size))
          have b3 : Below w.heap.size w w3 := ((HW.out.below.alloc HW.out.below.size (.cells (xcells x) 29)).trans (HB2.out.mono (by have := HW.out.below.size; simp; omega))).trans (HB3.out.mono (by have := HW.out.below.size; have := HB2.out.size; simp at this; omega))
          have O3 := Lib.hid o3; have B3 := Lib.hid b3; clear o3 b3 HB2 HB3 HX2
          go_wp2_with fail
          refine (num_two w.heap.size w1.heap.size w3.heap.size 2 v want x.wd x.n x.m _ (O3.out.alloc _) (by simp; omega) (by simp [go_sem]) (by simp [go_sem]) HX.out.n HX.out.m (by have := HW.out.len; omega) (O3.out.not_new (Nat.le_refl _))).mono ?_
          rintro e w4 ⟨rfl, v4, o4, c4, l4⟩
          have b4 : Below w.heap.size w w4 := (B3.out.alloc z3 _).trans (wrote_below (O3.out.alloc _) (by simp; omega) c4)
          have O4 := Lib.hid o4; have B4 := Lib.hid b4; clear o4 b4 c4 l4 O3 B3 k0 k1 k2 k3 k4
          rw [okNums_two]
          have hs1 : (textOf (rnumS x.wd x.n)).size ≤ 8 := by rw [textOf_size]; exact rnumS_length _ _
          have hs2 : (textOf (rnumS x.wd x.m)).size ≤ 8 := by rw [textOf_size]; exact rnumS_length _ _
          by_cases hboth : okNums x.wd [x.n] = true ∧ okNums x.wd [x.m] = true
          · obtain ⟨hy1, hy2⟩ := hboth
            obtain ⟨bs', hbs'⟩ : ∃ bs', numd x.wd [x.n, x.m] want = bs' := ⟨_, rfl⟩
            have hE : textOf want ++ textOf (rnumS x.wd x.n) ++ textOf (rnumS x.wd x.m) = textOf bs' := by
              rw [← hbs', numd_yes _ (by rw [okNums_two, hy1, hy2]; rfl), nums_two, rnumS_ok hy1, rnumS_ok hy2, text_add3, List.append_assoc]
            have hL : (textOf bs').size = bs'.length := textOf_size _
            have hLb : bs'.length ≤ want.length + 16 := by
              rw [← hbs', numd_yes _ (by rw [okNums_two, hy1, hy2]; rfl), nums_two, List.length_append, List.length_append, ← rnumS_ok hy1, ← rnumS_ok hy2]
              have := rnumS_length x.wd x.n; have := rnumS_length x.wd x.m; omega
            have O5 : Hid (Out w4 w.heap.size w1.heap.size v4 bs') := by rw [← hbs']; exact O4.out
            have HLB := Lib.hid hLb; clear hbs' O4 hLb
            rw [hy1, hy2]
            clear hy1 hy2
            go_wp2_with (first | (go_at_call 13; refine (string_some O5.out).mono ?_; rintro e w' ⟨rfl, rfl⟩) | (go_at_call 14; refine (len_some O5.out).mono ?_; rintro e w' ⟨rfl, rfl⟩))
            go_roundg (acts.length - (j + 1))
            case measure => have := HG.out; omega
            case rel => exact ⟨j + 1, bs', v4, by omega, by omega, rfl, by go_num, rfl, ⟨O5.out, B4.out, by have := HLB.out; have := HW.out.len; omega⟩⟩
          · have hno : (okNums x.wd [x.n] && okNums x.wd [x.m]) = false := by
              rw [Bool.eq_false_iff]; intro h9; rw [Bool.and_eq_true] at h9; exact hboth h9
            have O5 : Hid (Out w4 w.heap.size w1.heap.size v4 want) := by
              have := O4.out
              rw [numd_no _ (by rw [okNums_two]; exact hno)] at this
              exact this
            have hL : (textOf want).size = want.length := textOf_size _
            rw [hno]
            clear O4 hboth
            by_cases hy1 : okNums x.wd [x.n] = true
            · have hy2 : okNums x.wd [x.m] = false := by rw [hy1] at hno; simpa using hno
              rw [hy1, hy2]
              clear hno hy1 hy2
              go_wp2_with (first | (go_at_call 13; refine (string_some O5.out).mono ?_; rintro e w' ⟨rfl, rfl⟩) | (go_at_call 14; refine (len_some O5.out).mono ?_; rintro e w' ⟨rfl, rfl⟩))
              go_roundg (acts.length - (j + 1))
              case measure => have := HG.out; omega
              case rel => exact ⟨j + 1, want, v4, by omega, by omega, rfl, by go_num, rfl, ⟨O5.out, B4.out, by have := HW.out.len; omega⟩⟩
            · have hy1' : okNums x.wd [x.n] = false := by simpa using hy1
              rw [hy1']
              clear hno hy1 hy1'
              go_wp2_with (first | (go_at_call 13; refine (string_some O5.out).mono ?_; rintro e w' ⟨rfl, rfl⟩) | (go_at_call 14; refine (len_some O5.out).mono ?_; rintro e w' ⟨rfl, rfl⟩))
              go_roundg (acts.length - (j + 1))
              case measure => have := HG.out; omega
              case rel => exact ⟨j + 1, want, v4, by omega, by omega, rfl, by go_num, rfl, ⟨O5.out, B4.out, by have := HW.out.len; omega⟩⟩
        have hk1' : (x.kind == 1) = false := by simpa using hk1
        clear hk1
        by_cases hk2 : x.kind = 2
        · have hk2' : (x.kind == 2) = true := by simpa using hk2
          clear hk2
          go_wp2_with fail
          refine (rtext_ok x.s _ (by omega)).mono ?_
          rintro e w2 ⟨rfl, hb2⟩
          have hx2 : At w2 wr.heap.size 29 (xcells x) := (At.new wr 29 (xcells x)).below hb2 (by simp)
          have k0 := At.cell hx2 0; have k1 := At.cell hx2 1; have k2 := At.cell hx2 2; have k3 := At.cell hx2 3; have k4 := At.cell hx2 4
          simp only [xcells] at k0 k1 k2 k3 k4
          have o2 : Out w2 w.heap.size w1.heap.size v want := (HW.out.out.alloc (.cells (xcells x) 29)).below hb2
          have z2 : w.heap.size ≤ w2.heap.size := Nat.le_trans HW.out.below.size (Nat.le_trans (by simp) hb2.size)
          have b2 : Below w.heap.size w w2 := (HW.out.below.alloc HW.out.below.size (.cells (xcells x) 29)).trans (hb2.mono (by have := HW.out.below.size; simp; omega))
          have O2 := Lib.hid o2; have B2 := Lib.hid b2; clear o2 b2 hb2 hx2
          go_wp2_with fail
          refine (text_some w.heap.size w1.heap.size v want x.s _ O2.out z2 HX.out.s (by have := HW.out.len; omega)).mono ?_
          rintro e w4 ⟨rfl, v4, o4, c4, l4⟩
          have b4 : Below w.heap.size w w4 := B2.out.trans (wrote_below O2.out z2 c4)
          have hd : decide (x.s.size ≤ 65535) = true := by simp; omega
          rw [hd]
          obtain ⟨bs', hbs'⟩ : ∃ bs', textd x.s want = bs' := ⟨_, rfl⟩
          have hE : textOf want ++ textOf (num 2 x.s.size ++ x.s.data.toList) = textOf bs' := by
            rw [← hbs', textd_yes _ (by omega), text_add2, List.append_assoc]
          have hL : (textOf bs').size = bs'.length := textOf_size _
          have hLb : bs'.length ≤ want.length + 1026 := by
            rw [← hbs', textd_yes _ (by omega), List.length_append, List.length_append, num_length, ← Lib.size_eq]
            have : (2 : Int).toNat = 2 := rfl
            omega
          rw [hbs'] at o4
          have hs1 : (textOf (num 2 x.s.size ++ x.s.data.toList)).size ≤ 1026 := by
            rw [textOf_size, List.length_append, num_length, ← Lib.size_eq]
            have : (2 : Int).toNat = 2 := rfl
            omega
          have O5 := Lib.hid o4; have B4 := Lib.hid b4; have HLB := Lib.hid hLb; clear o4 b4 c4 l4 O2 B2 k0 k1 k2 k3 k4 hbs' hLb hd
          go_wp2_with (first | (go_at_call 13; refine (string_some O5.out).mono ?_; rintro e w' ⟨rfl, rfl⟩) | (go_at_call 14; refine (len_some O5.out).mono ?_; rintro e w' ⟨rfl, rfl⟩))
          go_roundg (acts.length - (j + 1))
          case measure => have := HG.out; omega
          case rel => exact ⟨j + 1, bs', v4, by omega, by omega, rfl, by go_num, rfl, ⟨O5.out, B4.out, by have := HLB.out; have := HW.out.len; omega⟩⟩
        · have hk2' : (x.kind == 2) = false := by simpa using hk2
          clear hk2
          have O5 : Hid (Out (wr.alloc (.cells (xcells x) 29)) w.heap.size w1.heap.size v want) := HW.out.out.alloc _
          have hL : (textOf want).size = want.length := textOf_size _
          go_wp2_with (first | (go_at_call 13; refine (string_some O5.out).mono ?_; rintro e w' ⟨rfl, rfl⟩) | (go_at_call 14; refine (len_some O5.out).mono ?_; rintro e w' ⟨rfl, rfl⟩))
          go_roundg (acts.length - (j + 1))
          case measure => have := HG.out; omega
          case rel => exact ⟨j + 1, want, v, by omega, by omega, rfl, by go_num, rfl, ⟨O5.out, HW.out.below.alloc HW.out.below.size _, by have := HW.out.len; omega⟩⟩
      · have hge : (40 : Int) ≤ (j : Int) := by omega
        obtain ⟨M, N, hN, hM, hmk⟩ := made_big
        obtain ⟨S, hS⟩ : ∃ S, textOf (List.replicate N 0) = S := ⟨_, rfl⟩
        have hSs : S.size = N := by rw [← hS, textOf_size, List.length_replicate]
        have hcv0 : ∀ W : World, (convert 25 9 (.slice (some ⟨W.heap.size, 0, none⟩) N N)).run Try.prog (W.alloc (.cells M 5)) = .ok (.string S) (W.alloc (.cells M 5)) := fun W => by
          rw [← hS]; exact conv_own (own_at (B := 0) (At.new W 5 M) (Nat.zero_le _) (by simp) hM (by unfold maxLen; omega))
        have hcv := hcv0 (((wr.alloc (.cells #[.int .i64 1] 3)).alloc (.cells #[.int .i64 0] 3)).alloc (.cells #[.slice none 0 0] 27))
        simp only [World.size_alloc] at hcv
        have HS := Lib.hid hS; have HSS := Lib.hid hSs; have HN := Lib.hid hN; clear hS hSs hM hcv0 hN
        have hb := HW.out.below
        have HBB := Lib.hid hb; clear hb
        go_wp2_with fail
        refine (num_nil _ _ _).mono ?_
        rintro e w' ⟨rfl, rfl⟩
        go_wp2_with fail
        refine (text_nil _ _).mono ?_
        rintro e w2 ⟨rfl, h2⟩
        have h2' : (wr.alloc (.cells #[.int .i64 1] 3)).alloc (.cells #[.int .i64 0] 3) = w2 := h2
        subst h2'
        clear h2
        go_wp2_with fail
        refine (string_nil _).mono ?_
        rintro e w' ⟨rfl, rfl⟩
        go_wp2_with fail
        refine (len_nil _).mono ?_
        rintro e w' ⟨rfl, rfl⟩
        go_wp2_with fail
        have hz := HBB.out.size
        have o9 := (Out.new ((wr.alloc (.cells #[.int .i64 1] 3)).alloc (.cells #[.int .i64 0] 3)) w.heap.size (by simp; omega)).alloc (.cells M 5)
        have b9 : Below w.heap.size w ((((wr.alloc (.cells #[.int .i64 1] 3)).alloc (.cells #[.int .i64 0] 3)).alloc (.cells #[.slice none 0 0] 27)).alloc (.cells M 5)) := (((HBB.out.alloc hz _).alloc (by simp; omega) _).alloc (by simp; omega) _).alloc (by simp; omega) _
        simp only [World.size_alloc] at o9
        refine (text_some w.heap.size _ _ [] S _ o9 (by simp; omega) (by have := HSS.out; have := HN.out; unfold maxLen; omega) (by simp)).mono ?_
        rintro e w9 ⟨rfl, v9, o10, c10, l10⟩
        have hd : decide (S.size ≤ 65535) = false := by have := HSS.out; have := HN.out; simp; omega
        rw [hd]
        have b10 : Below w.heap.size w w9 := b9.trans (wrote_below o9 (by simp; omega) c10)
        have B10 := Lib.hid b10; clear b10 b9 o9 o10 c10 l10 hd
        go_wp2_with fail
        go_ret
        exact ⟨rfl, B10.out⟩
    · have hge : (acts.length : Int) ≤ (j : Int) := by omega
      obtain ⟨M, N, hN, hM, hmk⟩ := made_big
      obtain ⟨S, hS⟩ : ∃ S, textOf (List.replicate N 0) = S := ⟨_, rfl⟩
      have hSs : S.size = N := by rw [← hS, textOf_size, List.length_replicate]
      have hcv0 : ∀ W : World, (convert 25 9 (.slice (some ⟨W.heap.size, 0, none⟩) N N)).run Try.prog (W.alloc (.cells M 5)) = .ok (.string S) (W.alloc (.cells M 5)) := fun W => by
        rw [← hS]; exact conv_own (own_at (B := 0) (At.new W 5 M) (Nat.zero_le _) (by simp) hM (by unfold maxLen; omega))
      have hcv := hcv0 (((wr.alloc (.cells #[.int .i64 1] 3)).alloc (.cells #[.int .i64 0] 3)).alloc (.cells #[.slice none 0 0] 27))
      simp only [World.size_alloc] at hcv
      have HS := Lib.hid hS; have HSS := Lib.hid hSs; have HN := Lib.hid hN; clear hS hSs hM hcv0 hN
      have hb := HW.out.below
      have HBB := Lib.hid hb; clear hb
      go_wp2_with fail
      refine (num_nil _ _ _).mono ?_
      rintro e w' ⟨rfl, rfl⟩
      go_wp2_with fail
      refine (text_nil _ _).mono ?_
      rintro e w2 ⟨rfl, h2⟩
      have h2' : (wr.alloc (.cells #[.int .i64 1] 3)).alloc (.cells #[.int .i64 0] 3) = w2 := h2
      subst h2'
      clear h2
      go_wp2_with fail
      refine (string_nil _).mono ?_
      rintro e w' ⟨rfl, rfl⟩
      go_wp2_with fail
      refine (len_nil _).mono ?_
      rintro e w' ⟨rfl, rfl⟩
      go_wp2_with fail
      have hz := HBB.out.size
      have o9 := (Out.new ((wr.alloc (.cells #[.int .i64 1] 3)).alloc (.cells #[.int .i64 0] 3)) w.heap.size (by simp; omega)).alloc (.cells M 5)
      have b9 : Below w.heap.size w ((((wr.alloc (.cells #[.int .i64 1] 3)).alloc (.cells #[.int .i64 0] 3)).alloc (.cells #[.slice none 0 0] 27)).alloc (.cells M 5)) := (((HBB.out.alloc hz _).alloc (by simp; omega) _).alloc (by simp; omega) _).alloc (by simp; omega) _
      simp only [World.size_alloc] at o9
      refine (text_some w.heap.size _ _ [] S _ o9 (by simp; omega) (by have := HSS.out; have := HN.out; unfold maxLen; omega) (by simp)).mono ?_
      rintro e w9 ⟨rfl, v9, o10, c10, l10⟩
      have hd : decide (S.size ≤ 65535) = false := by have := HSS.out; have := HN.out; simp; omega
      rw [hd]
      have b10 : Below w.heap.size w w9 := b9.trans (wrote_below o9 (by simp; omega) c10)
      have B10 := Lib.hid b10; clear b10 b9 o9 o10 c10 l10 hd
      go_wp2_with fail
      go_ret
      exact ⟨rfl, B10.out⟩
end Go.Proofs.Ytoijipahcpdhcaa
