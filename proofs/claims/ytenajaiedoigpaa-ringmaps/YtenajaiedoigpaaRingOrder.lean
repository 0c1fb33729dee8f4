/- The walk of RingOrder: it returns true. -/
import Derived.Test.YtenajaiedoigpaaInts
namespace Go.Proofs.Ytenajaiedoigpaa
open Go.RowKit Go.Lib Plain

/-- rows of numbers that share nothing -/
def Sep (u v : Value) : Prop := ∀ g, u.ownBlock = some g → v.ownBlock ≠ some g
theorem Sep.symm {u v : Value} (h : Sep u v) : Sep v u := fun g h1 h2 => h g h2 h1
/-- the state of the loops: the ring, and what went in and came out so far -/
structure OSt (w wx : World) (B p k m : Nat) (its : List (Int × Nat)) (vi vo : Value) (il ol : List Int) : Prop where
  ring : RAt (two (Value.int .i64)) 68 70 wx B p k its m
  inn : OwnI wx w.heap.size vi il
  out : OwnI wx w.heap.size vo ol
  sep : Sep vi vo
  all : il = ol ++ its.map (·.1)
  chg : Chg w wx (fun i => w.heap.size ≤ i)
  lo : w.heap.size ≤ B
  le : B ≤ wx.heap.size
section
variable {w wx w1 : World} {B p k m : Nat} {its : List (Int × Nat)} {vi vo : Value} {il ol : List Int}
theorem RBlk.hi {k : Nat} {rt pt : TypeId} {a : World} (h : RBlk rt pt a B k) (hB : w.heap.size ≤ B) : w.heap.size ≤ k := Nat.le_trans hB h.1
theorem OSt.below (h : OSt w wx B p k m its vi vo il ol) (hb : Below wx.heap.size wx w1) : OSt w w1 B p k m its vi vo il ol :=
  ⟨h.ring.below hb, h.inn.below hb, h.out.below hb, h.sep, h.all, h.chg.trans (Chg.ofBelow hb (fun _ => False)) (fun _ _ e => e.elim), h.lo, Nat.le_trans h.le hb.size⟩
/-- a Push: the row of what went in is to be appended to -/
structure OMid (w wx : World) (B p k m : Nat) (its : List (Int × Nat)) (vi vo : Value) (il ol : List Int) (x : Int) : Prop where
  ring : RAt (two (Value.int .i64)) 68 70 wx B p k its m
  inn : OwnI wx w.heap.size vi il
  out : OwnI wx w.heap.size vo ol
  sep : Sep vi vo
  all : il ++ [x] = ol ++ its.map (·.1)
  chg : Chg w wx (fun i => w.heap.size ≤ i)
  lo : w.heap.size ≤ B
  le : B ≤ wx.heap.size
theorem OSt.push {x : Int} (h : OSt w wx B p k m its vi vo il ol) (hr : RAt (two (Value.int .i64)) 68 70 w1 B p k (its ++ [(x, m)]) (m + 1)) (hc : Chg wx w1 (RBlk 68 70 wx B)) : OMid w w1 B p k (m + 1) (its ++ [(x, m)]) vi vo il ol x :=
  ⟨hr, h.inn.ring hc (by decide) (by decide), h.out.ring hc (by decide) (by decide), h.sep, by rw [h.all]; simp, h.chg.trans hc (fun i _ e => e.hi h.lo), h.lo, Nat.le_trans h.le hc.size⟩
theorem OMid.app {x : Int} (h : OMid w wx B p k m its vi vo il ol x) (hn : il.length ≤ 1000) :
    ∃ v' w2, (Builtin.append_ #[30, 30] 30 #[vi, .slice (some ⟨wx.heap.size, 0, none⟩) 1 1]).run Try.prog (wx.alloc (.cells #[.int .i64 x] 3)) = .ok v' w2 ∧ OSt w w2 B p k m its v' vo (il ++ [x]) ol := by
  have hb : Below wx.heap.size wx (wx.alloc (.cells #[.int .i64 x] 3)) := (Below.refl _ _).alloc (Nat.le_refl _) _
  have hi := h.inn.below hb
  have ho := h.out.below hb
  have hs := h.chg.size
  obtain ⟨v', w2, hr, h1, h2, h3⟩ := append_ints 30 hi (src_one wx x) (by simp; omega) (by simp; omega)
  refine ⟨v', w2, hr, ?_, h1, ?_, ?_, h.all, ?_, h.lo, ?_⟩
  · refine (h.ring.below hb).chg (Chg.grown h2) (fun g hg e => ?_)
    obtain ⟨_, cs, hg | hg⟩ := hg
    · exact own_ne hi hg (by decide) e
    · exact own_ne hi hg (by decide) e
  · exact own_chg ho (Chg.grown h2) (fun g hg e => h.sep g e hg)
  · intro g hg ho'
    have := (ho.lt ho').2
    exact h.sep g (h3.old hg this) ho'
  · refine (h.chg.trans (Chg.ofBelow hb (fun _ => False)) (fun _ _ e => e.elim)).trans (Chg.grown h2) (fun i _ e => (hi.lt e).1)
  · have := h2.size; have := h.le; simp at *; omega
/-- a Pop: the row of what came out is to be appended to -/
structure PMid (w wx : World) (B p k m : Nat) (its : List (Int × Nat)) (vi vo : Value) (il ol : List Int) (x : Int) : Prop where
  ring : RAt (two (Value.int .i64)) 68 70 wx B p k its m
  inn : OwnI wx w.heap.size vi il
  out : OwnI wx w.heap.size vo ol
  sep : Sep vi vo
  all : il = ol ++ x :: its.map (·.1)
  chg : Chg w wx (fun i => w.heap.size ≤ i)
  lo : w.heap.size ≤ B
  le : B ≤ wx.heap.size
theorem OSt.pop {x : Int × Nat} (h : OSt w wx B p k m (x :: its) vi vo il ol) (hr : RAt (two (Value.int .i64)) 68 70 w1 B p k its m) (hc : Chg wx w1 (RBlk 68 70 wx B)) : PMid w w1 B p k m its vi vo il ol x.1 :=
  ⟨hr, h.inn.ring hc (by decide) (by decide), h.out.ring hc (by decide) (by decide), h.sep, by rw [h.all]; simp, h.chg.trans hc (fun i _ e => e.hi h.lo), h.lo, Nat.le_trans h.le hc.size⟩
theorem PMid.app {x : Int} (h : PMid w wx B p k m its vi vo il ol x) (hn : il.length ≤ 1000) :
    ∃ v' w2, (Builtin.append_ #[30, 30] 30 #[vo, .slice (some ⟨wx.heap.size, 0, none⟩) 1 1]).run Try.prog (wx.alloc (.cells #[.int .i64 x] 3)) = .ok v' w2 ∧ OSt w w2 B p k m its vi v' il (ol ++ [x]) := by
  have hb : Below wx.heap.size wx (wx.alloc (.cells #[.int .i64 x] 3)) := (Below.refl _ _).alloc (Nat.le_refl _) _
  have hi := h.inn.below hb
  have ho := h.out.below hb
  have hs := h.chg.size
  have hl : ol.length ≤ 1000 := by have := congrArg List.length h.all; simp at this; omega
  obtain ⟨v', w2, hr, h1, h2, h3⟩ := append_ints 30 ho (src_one wx x) (by simp; omega) (by simp; omega)
  refine ⟨v', w2, hr, ?_, ?_, h1, ?_, by rw [h.all]; simp, ?_, h.lo, ?_⟩
  · refine (h.ring.below hb).chg (Chg.grown h2) (fun g hg e => ?_)
    obtain ⟨_, cs, hg | hg⟩ := hg
    · exact own_ne ho hg (by decide) e
    · exact own_ne ho hg (by decide) e
  · exact own_chg hi (Chg.grown h2) (fun g hg e => h.sep g hg e)
  · intro g hg ho'
    have := (hi.lt hg).2
    exact h.sep g hg (h3.old ho' this)
  · refine (h.chg.trans (Chg.ofBelow hb (fun _ => False)) (fun _ _ e => e.elim)).trans (Chg.grown h2) (fun i _ e => (ho.lt e).1)
  · have := h2.size; have := h.le; simp at *; omega
end
theorem wrap_u64_nonneg (z : Int) : 0 ≤ IntKind.u64.wrap z := by
  simp [IntKind.wrap, IntKind.bits, IntKind.signed]; omega
/-- 'a + int(uint(z) % D)' is a number from a to a + D - 1 -/
theorem room_of (z : Int) (a D : Nat) (hD : 0 < D) (hD2 : D ≤ 1000) (ha : a ≤ 1000) : ∃ n : Nat, a ≤ n ∧ n < a + D ∧ wrap64 ((a : Int) + wrap64 ((IntKind.u64.wrap z).tmod (D : Int))) = (n : Int) := by
  have h0 := wrap_u64_nonneg z
  have e : (IntKind.u64.wrap z).tmod (D : Int) = (IntKind.u64.wrap z) % (D : Int) := Int.tmod_eq_emod_of_nonneg h0
  have h1 := Int.emod_nonneg (IntKind.u64.wrap z) (show (D : Int) ≠ 0 by omega)
  have h2 := Int.emod_lt_of_pos (IntKind.u64.wrap z) (show (0 : Int) < (D : Int) by omega)
  refine ⟨a + ((IntKind.u64.wrap z) % (D : Int)).toNat, by omega, by omega, ?_⟩
  rw [e]
  unfold wrap64
  omega

set_option maxRecDepth 100000 in
set_option maxHeartbeats 1600000 in
theorem ringOrder_walk (z : Int) (A : Option Addr) (cap : Nat) (zs : List Int) (A2 : Option Addr) (cap2 : Nat) (bs : List Bool) (w : World) (hz : inI64 z) (hzi : ∀ y ∈ zs, inI64 y) (hA : IntsAt w w.heap.size A zs) (hl : zs.length ≤ maxLen) (hA2 : BoolsAt w w.heap.size A2 bs) (hl2 : bs.length ≤ maxLen) :
    Calls Try.prog 5 #[.int .i64 z, .slice A zs.length cap, .slice A2 bs.length cap2] w fun e w' => e = .returned (.bool true) ∧ Below w.heap.size w w' := by
  unfold maxLen at hl hl2
  by_cases g1 : 200 < zs.length
  · clear hzi hA hA2
    go_enter Try.func5, Try.ntmps5
    go_wp2_with (go_at_call 7; refine (awake_any _).mono ?_; rintro e w' ⟨rfl, hg⟩)
    go_ret
    exact ⟨rfl, hg⟩
  obtain ⟨k, hk1, hk2, hk0⟩ := room_of z 1 50 (by omega) (by omega) (by omega)
  have hk : wrap64 (1 + wrap64 ((IntKind.u64.wrap z).tmod 50)) = (k : Int) := hk0
  have HK := Lib.hid hk; clear hk hk0
  have HA := Lib.hid hA; have HA2 := Lib.hid hA2; have HZ := Lib.hid hz; clear hA hA2 hzi hz
  go_enter Try.func5, Try.ntmps5
  go_wp2_with fail
  refine (awake_any _).mono ?_
  rintro e w0 ⟨rfl, hb0⟩
  have HB0 := Lib.hid hb0; clear hb0
  go_wp2_with fail
  rw [HK.out]
  refine (RI.new_any w0 k hk1 (by omega)).mono ?_
  rintro e w1 ⟨rfl, hr1, hb1⟩
  have hw : w.heap.size ≤ w0.heap.size := HB0.out.size
  have hw1 := hb1.size
  have hc1 : Chg w w1 (fun i => w.heap.size ≤ i) := (Chg.ofBelow HB0.out _).trans (Chg.ofBelow hb1 (fun _ => False)) (fun _ _ e => e.elim)
  generalize w0.heap.size = p at *
  have st : OSt w ((w1.alloc (.cells #[] 3)).alloc (.cells #[] 3)) p p k 0 [] (.slice (some ⟨w1.heap.size, 0, none⟩) 0 0) (.slice (some ⟨w1.heap.size + 1, 0, none⟩) 0 0) [] [] := by
    have b1 : Below w1.heap.size w1 (w1.alloc (.cells #[] 3)) := (Below.refl _ _).alloc (Nat.le_refl _) _
    have b2 : Below (w1.alloc (.cells #[] 3)).heap.size (w1.alloc (.cells #[] 3)) ((w1.alloc (.cells #[] 3)).alloc (.cells #[] 3)) := (Below.refl _ _).alloc (Nat.le_refl _) _
    refine ⟨(hr1.below b1).below b2, (own_lit0 w1 (by omega)).below b2, ?_, ?_, rfl, (hc1.alloc _).alloc _, hw, by simp; omega⟩
    · have := own_lit0 (w1.alloc (.cells #[] 3)) (B := w.heap.size) (by simp; omega)
      simpa using this
    · intro g hg h2
      simp [Value.ownBlock] at hg h2
      omega
  have ST := Lib.hid st; clear st hr1 hb1 hc1 HB0 HZ HK
  go_wp2_with fail
  clear hw1
  go_loopg [9, 10, 11] zs.length (fun gh s9 s10 s11 wx => ∃ (j m : Nat) (its : List (Int × Nat)) (vi vo : Value) (il ol : List Int), j ≤ zs.length ∧ gh = zs.length - j ∧ s11 = .int .i64 (j : Int) ∧ m ≤ j ∧ il.length ≤ j ∧ vi = s9 ∧ vo = s10 ∧ OSt w wx p p k m its vi vo il ol)
  case atStart => exact ⟨0, 0, [], _, _, [], [], Nat.zero_le _, rfl, rfl, Nat.le_refl _, Nat.le_refl _, rfl, rfl, ST.out⟩
  case round =>
    obtain ⟨j, m, its, vi, vo, il, ol, hj, hg, rfl, hm, hil, rfl, rfl, hst⟩ := hrel
    have HG := Lib.hid hg; have KST := Lib.hid hst; clear hg hst ST
    have hlen := KST.out.ring.length
    by_cases hlt : j < zs.length
    · have hbw := KST.out.chg.toBelow (Nat.le_refl _) (fun i hi e => by omega)
      obtain ⟨b1, o1, rfl, hb1, hc1⟩ := (HA.out.keep hbw) j hlt
      generalize hx : zs.getD j 0 = x at hc1
      have b3 : (j : Int) < (zs.length : Int) := by omega
      have b4 : (0 : Int) ≤ (j : Int) := by omega
      have cl := RI.len_any KST.out.ring
      have CL := Lib.hid cl
      clear hbw cl hx
      have hbool : (¬ j < bs.length) ∨ ∃ b2 o2, A2 = some ⟨b2, o2, none⟩ ∧ b2 < w.heap.size ∧ j < bs.length ∧ (w.cell? ⟨b2, o2 + j, none⟩ = some (.bool false) ∨ w.cell? ⟨b2, o2 + j, none⟩ = some (.bool true)) := by
        by_cases hbl : j < bs.length
        · obtain ⟨b2, o2, e2, hb2, hc2⟩ := HA2.out j hbl
          refine .inr ⟨b2, o2, e2, hb2, hbl, ?_⟩
          cases hv : bs.getD j false
          · exact .inl (by rw [hc2, hv])
          · exact .inr (by rw [hc2, hv])
        · exact .inl hbl
      have HBO := Lib.hid hbool; clear hbool
      by_cases hfull : its.length < k
      · rcases HBO.out with hnb | ⟨b2, o2, rfl, hb2, hbl, hbf | hbt⟩
        · have cp := RI.push_any x KST.out.ring KST.out.le hfull (by omega)
          have CP := Lib.hid cp; clear cp
          have e1 : decide (its.length < k) = true := by simpa using hfull
          go_wp2_with fail
          refine CL.out.mono ?_
          rintro e w2 ⟨rfl, rfl⟩
          go_wp2_with fail
          refine CP.out.mono ?_
          rintro e w3 ⟨rfl, hr3, hc3⟩
          have md3 := KST.out.push hr3 hc3
          have cl3 := RI.len_any md3.ring
          rw [List.length_append, List.length_singleton] at cl3
          have hb := KST.out.chg.toBelow (B := w.heap.size) (Nat.le_refl _) (fun i hi e => by omega)
          have hb3 : Below w.heap.size w w3 := md3.chg.toBelow (Nat.le_refl _) (fun i hi e => by omega)
          have hc13 : w3.cell? ⟨b1, o1 + j, none⟩ = some (.int .i64 x) := by
            rw [hb3.cell (p := ⟨b1, o1 + j, none⟩) hb1, ← hb.cell (p := ⟨b1, o1 + j, none⟩) hb1]; exact hc1
          have CL3 := Lib.hid cl3; have MD3 := Lib.hid md3; clear hr3 hc3 md3 cl3 hb3 CL CP hb
          go_wp2_with fail
          refine CL3.out.mono ?_
          rintro e w4 ⟨rfl, rfl⟩
          obtain ⟨v', w5, hr, hst5⟩ := MD3.out.app (by omega)
          have HR := Lib.hid hr; have KST5 := Lib.hid hst5; clear hr hst5
          go_wp2_with (at_builtin; (refine Lib.wpList_append_run _ rfl (.tmp 58) (.tmp 63) 30 30 rfl _ _ rfl rfl v' w5 HR.out ?_))
          go_roundg (zs.length - (j + 1))
          case measure => have := HG.out; omega
          case rel => exact ⟨j + 1, m + 1, its ++ [(x, m)], _, _, il ++ [x], ol, by omega, rfl, by go_num, by omega, by first | omega | (simp; omega), rfl, rfl, KST5.out⟩
        · have cp := RI.push_any x KST.out.ring KST.out.le hfull (by omega)
          have CP := Lib.hid cp; clear cp
          have e1 : decide (its.length < k) = true := by simpa using hfull
          have HB2 := Lib.hid hbf; clear hbf
          have c3 : (j : Int) < (bs.length : Int) := by omega
          go_wp2_with fail
          refine CL.out.mono ?_
          rintro e w2 ⟨rfl, rfl⟩
          go_wp2_with fail
          refine CP.out.mono ?_
          rintro e w3 ⟨rfl, hr3, hc3⟩
          have md3 := KST.out.push hr3 hc3
          have cl3 := RI.len_any md3.ring
          rw [List.length_append, List.length_singleton] at cl3
          have hb := KST.out.chg.toBelow (B := w.heap.size) (Nat.le_refl _) (fun i hi e => by omega)
          have hb3 : Below w.heap.size w w3 := md3.chg.toBelow (Nat.le_refl _) (fun i hi e => by omega)
          have hc13 : w3.cell? ⟨b1, o1 + j, none⟩ = some (.int .i64 x) := by
            rw [hb3.cell (p := ⟨b1, o1 + j, none⟩) hb1, ← hb.cell (p := ⟨b1, o1 + j, none⟩) hb1]; exact hc1
          have CL3 := Lib.hid cl3; have MD3 := Lib.hid md3; clear hr3 hc3 md3 cl3 hb3 CL CP hb
          go_wp2_with fail
          refine CL3.out.mono ?_
          rintro e w4 ⟨rfl, rfl⟩
          obtain ⟨v', w5, hr, hst5⟩ := MD3.out.app (by omega)
          have HR := Lib.hid hr; have KST5 := Lib.hid hst5; clear hr hst5
          have hcb : w5.cell? ⟨b2, o2 + j, none⟩ = some (.bool false) := by
            have hb5 := KST5.out.chg.toBelow (B := w.heap.size) (Nat.le_refl _) (fun i hi e => by omega)
            rw [hb5.cell (p := ⟨b2, o2 + j, none⟩) hb2]; exact HB2.out
          go_wp2_with (at_builtin; (refine Lib.wpList_append_run _ rfl (.tmp 58) (.tmp 63) 30 30 rfl _ _ rfl rfl v' w5 HR.out ?_))
          go_roundg (zs.length - (j + 1))
          case measure => have := HG.out; omega
          case rel => exact ⟨j + 1, m + 1, its ++ [(x, m)], _, _, il ++ [x], ol, by omega, rfl, by go_num, by omega, by first | omega | (simp; omega), rfl, rfl, KST5.out⟩
        · have cp := RI.push_any x KST.out.ring KST.out.le hfull (by omega)
          have CP := Lib.hid cp; clear cp
          have e1 : decide (its.length < k) = true := by simpa using hfull
          have HB2 := Lib.hid hbt; clear hbt
          have c3 : (j : Int) < (bs.length : Int) := by omega
          go_wp2_with fail
          refine CL.out.mono ?_
          rintro e w2 ⟨rfl, rfl⟩
          go_wp2_with fail
          refine CP.out.mono ?_
          rintro e w3 ⟨rfl, hr3, hc3⟩
          have md3 := KST.out.push hr3 hc3
          have cl3 := RI.len_any md3.ring
          rw [List.length_append, List.length_singleton] at cl3
          have hb := KST.out.chg.toBelow (B := w.heap.size) (Nat.le_refl _) (fun i hi e => by omega)
          have hb3 : Below w.heap.size w w3 := md3.chg.toBelow (Nat.le_refl _) (fun i hi e => by omega)
          have hc13 : w3.cell? ⟨b1, o1 + j, none⟩ = some (.int .i64 x) := by
            rw [hb3.cell (p := ⟨b1, o1 + j, none⟩) hb1, ← hb.cell (p := ⟨b1, o1 + j, none⟩) hb1]; exact hc1
          have CL3 := Lib.hid cl3; have MD3 := Lib.hid md3; clear hr3 hc3 md3 cl3 hb3 CL CP hb
          go_wp2_with fail
          refine CL3.out.mono ?_
          rintro e w4 ⟨rfl, rfl⟩
          obtain ⟨v', w5, hr, hst5⟩ := MD3.out.app (by omega)
          have HR := Lib.hid hr; have KST5 := Lib.hid hst5; clear hr hst5
          have hcb : w5.cell? ⟨b2, o2 + j, none⟩ = some (.bool true) := by
            have hb5 := KST5.out.chg.toBelow (B := w.heap.size) (Nat.le_refl _) (fun i hi e => by omega)
            rw [hb5.cell (p := ⟨b2, o2 + j, none⟩) hb2]; exact HB2.out
          go_wp2_with (at_builtin; (refine Lib.wpList_append_run _ rfl (.tmp 58) (.tmp 63) 30 30 rfl _ _ rfl rfl v' w5 HR.out ?_))
          obtain ⟨y, rest, hyr⟩ : ∃ y rest, (its ++ [(x, m)]) = y :: rest := by
            cases hh : (its ++ [(x, m)]) with
            | nil => have := congrArg List.length hh; simp at this; skip
            | cons y rest => exact ⟨y, rest, rfl⟩
          rw [hyr] at KST5
          clear hyr
          refine (RI.pop_some KST5.out.ring).mono ?_
          rintro e w6 ⟨rfl, hr6, hc6⟩
          have md6 := KST5.out.pop hr6 hc6
          obtain ⟨v7, w7, hr7, hst7⟩ := md6.app (by simp; omega)
          have HR7 := Lib.hid hr7; have KST7 := Lib.hid hst7; clear hr7 hst7 md6 hr6 hc6
          go_wp2_with (at_builtin; (refine Lib.wpList_append_run _ rfl (.tmp 82) (.tmp 84) 30 30 rfl _ _ rfl rfl v7 w7 HR7.out ?_))
          go_roundg (zs.length - (j + 1))
          case measure => have := HG.out; omega
          case rel => exact ⟨j + 1, m + 1, rest, _, _, il ++ [x], ol ++ [y.1], by omega, rfl, by go_num, by omega, by first | omega | (simp; omega), rfl, rfl, KST7.out⟩
      · rcases HBO.out with hnb | ⟨b2, o2, rfl, hb2, hbl, hbf | hbt⟩
        · have heq : its.length = k := by omega
          have cp := RI.push_no x KST.out.ring heq
          have CP := Lib.hid cp; clear cp
          have e1 : decide (its.length < k) = false := by simpa using hfull
          have HEQ := Lib.hid heq; clear heq
          have w5e : ∃ w5, w5 = wr := ⟨wr, rfl⟩
          have KST5 := Lib.hid KST.out
          go_wp2_with fail
          refine CL.out.mono ?_
          rintro e w2 ⟨rfl, rfl⟩
          go_wp2_with fail
          refine CP.out.mono ?_
          rintro e w3 ⟨rfl, rfl⟩
          go_wp2_with fail
          refine CL.out.mono ?_
          rintro e w4 ⟨rfl, rfl⟩
          go_wp2_with fail
          go_roundg (zs.length - (j + 1))
          case measure => have := HG.out; omega
          case rel => exact ⟨j + 1, m, its, _, _, il, ol, by omega, rfl, by go_num, by omega, by first | omega | (simp; omega), rfl, rfl, KST5.out⟩
        · have heq : its.length = k := by omega
          have cp := RI.push_no x KST.out.ring heq
          have CP := Lib.hid cp; clear cp
          have e1 : decide (its.length < k) = false := by simpa using hfull
          have HEQ := Lib.hid heq; clear heq
          have HB2 := Lib.hid hbf; clear hbf
          have c3 : (j : Int) < (bs.length : Int) := by omega
          have w5e : ∃ w5, w5 = wr := ⟨wr, rfl⟩
          have KST5 := Lib.hid KST.out
          have hcb : wr.cell? ⟨b2, o2 + j, none⟩ = some (.bool false) := by
            have hb5 := KST5.out.chg.toBelow (B := w.heap.size) (Nat.le_refl _) (fun i hi e => by omega)
            rw [hb5.cell (p := ⟨b2, o2 + j, none⟩) hb2]; exact HB2.out
          go_wp2_with fail
          refine CL.out.mono ?_
          rintro e w2 ⟨rfl, rfl⟩
          go_wp2_with fail
          refine CP.out.mono ?_
          rintro e w3 ⟨rfl, rfl⟩
          go_wp2_with fail
          refine CL.out.mono ?_
          rintro e w4 ⟨rfl, rfl⟩
          go_wp2_with fail
          go_roundg (zs.length - (j + 1))
          case measure => have := HG.out; omega
          case rel => exact ⟨j + 1, m, its, _, _, il, ol, by omega, rfl, by go_num, by omega, by first | omega | (simp; omega), rfl, rfl, KST5.out⟩
        · have heq : its.length = k := by omega
          have cp := RI.push_no x KST.out.ring heq
          have CP := Lib.hid cp; clear cp
          have e1 : decide (its.length < k) = false := by simpa using hfull
          have HEQ := Lib.hid heq; clear heq
          have HB2 := Lib.hid hbt; clear hbt
          have c3 : (j : Int) < (bs.length : Int) := by omega
          have w5e : ∃ w5, w5 = wr := ⟨wr, rfl⟩
          have KST5 := Lib.hid KST.out
          have hcb : wr.cell? ⟨b2, o2 + j, none⟩ = some (.bool true) := by
            have hb5 := KST5.out.chg.toBelow (B := w.heap.size) (Nat.le_refl _) (fun i hi e => by omega)
            rw [hb5.cell (p := ⟨b2, o2 + j, none⟩) hb2]; exact HB2.out
          go_wp2_with fail
          refine CL.out.mono ?_
          rintro e w2 ⟨rfl, rfl⟩
          go_wp2_with fail
          refine CP.out.mono ?_
          rintro e w3 ⟨rfl, rfl⟩
          go_wp2_with fail
          refine CL.out.mono ?_
          rintro e w4 ⟨rfl, rfl⟩
          go_wp2_with fail
          obtain ⟨y, rest, hyr⟩ : ∃ y rest, its = y :: rest := by
            cases hh : its with
            | nil => have := congrArg List.length hh; simp at this; (have := HEQ.out; rw [hh] at this; simp at this; omega)
            | cons y rest => exact ⟨y, rest, rfl⟩
          rw [hyr] at KST5
          clear hyr
          refine (RI.pop_some KST5.out.ring).mono ?_
          rintro e w6 ⟨rfl, hr6, hc6⟩
          have md6 := KST5.out.pop hr6 hc6
          obtain ⟨v7, w7, hr7, hst7⟩ := md6.app (by omega)
          have HR7 := Lib.hid hr7; have KST7 := Lib.hid hst7; clear hr7 hst7 md6 hr6 hc6
          go_wp2_with (at_builtin; (refine Lib.wpList_append_run _ rfl (.tmp 82) (.tmp 84) 30 30 rfl _ _ rfl rfl v7 w7 HR7.out ?_))
          go_roundg (zs.length - (j + 1))
          case measure => have := HG.out; omega
          case rel => exact ⟨j + 1, m, rest, _, _, il, ol ++ [y.1], by omega, rfl, by go_num, by omega, by first | omega | (simp; omega), rfl, rfl, KST7.out⟩
    · clear hlen
      go_wp2_with fail
      go_loopg [10] its.length (fun gh s10 wx => ∃ (its' : List (Int × Nat)) (vo' : Value) (ol' : List Int), gh = its'.length ∧ vo' = s10 ∧ OSt w wx p p k m its' vi vo' il ol')
      case atStart => exact ⟨its, vo, ol, rfl, rfl, KST.out⟩
      case round =>
        obtain ⟨its2, vo2, ol2, hg2, rfl, hst2⟩ := hrel
        have HG2 := Lib.hid hg2; have KST2 := Lib.hid hst2; clear hg2 hst2
        have cl := RI.len_any KST2.out.ring
        cases its2 with
        | nil =>
          have CL := Lib.hid cl; clear cl
          go_wp2_with fail
          refine CL.out.mono ?_
          rintro e w2 ⟨rfl, rfl⟩
          go_wp2_with fail
          have hall := KST2.out.all
          simp only [List.map_nil, List.append_nil] at hall
          have ho := KST2.out.out
          rw [← hall] at ho
          refine (ints_any KST2.out.inn.sl ho.sl (by omega)).mono ?_
          rintro e w3 ⟨rfl, hb3⟩
          have HF := Lib.hid (KST2.out.chg.trans (Chg.ofBelow hb3 (fun _ => False)) (fun _ _ e => e.elim)); clear hb3 ho hall
          go_wp2_with fail
          go_ret
          exact ⟨rfl, HF.out.toBelow (Nat.le_refl _) (fun i hi e => by omega)⟩
        | cons y rest =>
          have hpos : (0 : Int) < ((y :: rest).length : Int) := by simp
          have cp := RI.pop_some KST2.out.ring
          generalize hL : (y :: rest).length = L2 at cl hpos HG2
          have HL := Lib.hid hL; have CL := Lib.hid cl; have CP := Lib.hid cp; clear cl cp hL
          go_wp2_with fail
          refine CL.out.mono ?_
          rintro e w2 ⟨rfl, rfl⟩
          go_wp2_with fail
          refine CP.out.mono ?_
          rintro e w6 ⟨rfl, hr6, hc6⟩
          have md6 := KST2.out.pop hr6 hc6
          obtain ⟨v7, w7, hr7, hst7⟩ := md6.app (by omega)
          have HR7 := Lib.hid hr7; have KST7 := Lib.hid hst7; clear hr7 hst7 md6 hr6 hc6
          go_wp2_with (at_builtin; (refine Lib.wpList_append_run _ rfl (.tmp 94) (.tmp 96) 30 30 rfl _ _ rfl rfl v7 w7 HR7.out ?_))
          go_roundg rest.length
          case measure => have := HG2.out; have := HL.out; simp at this; omega
          case rel => exact ⟨rest, _, _, rfl, rfl, KST7.out⟩
end Go.Proofs.Ytenajaiedoigpaa
