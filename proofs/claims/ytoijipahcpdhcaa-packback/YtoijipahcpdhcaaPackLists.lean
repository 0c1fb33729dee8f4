/- The walk of the statement PackLists. -/
import Derived.Test.YtoijipahcpdhcaaReadC
import Derived.Deep.QuietTactic
import Derived.BigQuiet
import Derived.ChangeSlices
namespace Go.Proofs.Ytoijipahcpdhcaa
open Go.RowKit Go.Lib Plain

section
variable {H : Type} {enc : TypeId × Value → H} {w : World} {base : Nat} {held : Bool}
theorem open_nums {fuel : Nat} {a : Option Addr} {len cap : Nat} {x : DataW H × List MemPlace}
    (h : DataW.trod enc Try.prog w base (fun _ => true) held fuel 46 [.slice a len cap] = some x) :
    len ≤ maxLen ∧ ∃ zs : List Int, zs.length = len ∧ (∀ y ∈ zs, inI64 y) ∧ IntsAt w w.heap.size a zs := by
  rcases Go.ChangeShapes.open_ints Try.underlying46 Try.underlying3 (by kernel_rfl) h with ⟨hcs, _⟩ | ⟨ad, l, c, zs, hcs, _, hl, hm, hz, _, hcell, hwz⟩
  · simp at hcs
    obtain ⟨rfl, rfl, rfl⟩ := hcs
    exact ⟨Nat.zero_le _, [], rfl, by simp, fun i hi => absurd hi (by simp)⟩
  · simp at hcs
    obtain ⟨rfl, rfl, rfl⟩ := hcs
    simp only [if_true] at hz
    refine ⟨by omega, zs.take len, by rw [List.length_take]; omega, fun y hy => wf_i64 (hwz y (List.mem_of_mem_take hy)), ?_⟩
    intro i hi
    have hi : i < len := by rw [List.length_take] at hi; omega
    have hc := hcell i (by omega)
    have h0 := hcell 0 (by omega)
    have hspot : ad.spot = none := by
      have e0 : ad.add 0 = ad := by simp [Addr.add]
      rw [e0] at h0
      exact World.cell?_spot h0
    have hblk : ad.block < w.heap.size := by
      have := World.block_lt_of_cell? w _ h0
      simpa [Addr.add] using this
    obtain ⟨b, off, sp⟩ := ad
    simp only at hspot hblk
    subst hspot
    refine ⟨b, off, rfl, hblk, ?_⟩
    have e : (⟨b, off, none⟩ : Addr).add i = ⟨b, off + i, none⟩ := by
      unfold Addr.add
      by_cases h1 : i = 0 <;> simp [h1]
    rw [e] at hc
    rw [hc]
    simp [List.getD, hi]
end
def sx : ByteArray := ⟨#[120]⟩
theorem kx : textd sx [] = [0, 1, 120] := by decide
/-- the document's bytes of the list's first numbers -/
def wantL (n : Nat) (zs : List Int) : List UInt8 := num 2 n ++ zs.flatMap (rnumS 1)
theorem wantL_snoc (n : Nat) (zs : List Int) (j : Nat) (h : j < zs.length) : wantL n (zs.take (j + 1)) = wantL n (zs.take j) ++ rnumS 1 (zs.getD j 0) := by
  unfold wantL
  rw [List.take_succ_eq_append_getElem h, List.flatMap_append, ← List.append_assoc]
  simp [h]
theorem wantL_length (n : Nat) (zs : List Int) : (wantL n zs).length ≤ 2 + zs.length * 8 := by
  unfold wantL
  rw [List.length_append, num_length]
  have : (zs.flatMap (rnumS 1)).length ≤ zs.length * 8 := by
    induction zs with
    | nil => simp
    | cons z l ih => simp only [List.flatMap_cons, List.length_append, List.length_cons, Nat.add_mul]; have := rnumS_length 1 z; omega
  have e : (2 : Int).toNat = 2 := rfl
  omega
theorem wantL_ok {zs : List Int} (h : okL zs = true) (n : Nat) : wantL n zs = num 2 n ++ nums 1 zs := by
  unfold wantL nums
  congr 1
  unfold okL at h
  rw [List.all_eq_true] at h
  induction zs with
  | nil => rfl
  | cons z l ih =>
    simp only [List.flatMap_cons]
    rw [ih (fun x hx => h x (List.mem_cons_of_mem _ hx)), rnumS_ok (by rw [okL_nums]; unfold okL; simpa using h z (List.mem_cons_self ..))]
theorem okL_take (zs : List Int) (j : Nat) (h : j < zs.length) : okL (zs.take (j + 1)) = (okL (zs.take j) && okNums 1 [zs.getD j 0]) := by
  rw [okL_nums]
  unfold okL
  rw [List.take_succ_eq_append_getElem h, List.all_append]; simp [h]
/-- at the first loop's head -/
structure PL (w wx : World) (p : Nat) (v : Value) : Prop where
  out : Out wx w.heap.size p v [0, 1, 120]
  below : Below w.heap.size w wx
theorem PL.step {w wx w' : World} {p : Nat} {v : Value} (h : PL w wx p v) (hb : Below wx.heap.size wx w') : PL w w' p v := ⟨h.out.below hb, h.below.trans (hb.mono h.below.size)⟩

theorem quietL {P : Program} {f : FuncId} {args : Array Value} {w : World} {n : Nat} {v : Value}
    (h : Calls P f args (w.drewN n) fun e w' => e = .returned v ∧ w.drewN n = w') : Calls P f args (w.drewN n) fun e w'' => e = .returned v ∧ ∃ m, w'' = w.drewN m :=
  h.mono fun _ _ ⟨he, hm⟩ => ⟨he, n, hm.symm⟩
theorem InAt.drewN {w : World} {p : Nat} {s : ByteArray} {bad : Bool} (h : InAt w p s bad) (n : Nat) : InAt (w.drewN n) p s bad := h
theorem left_val {w : World} {p r : Nat} {s : ByteArray} {bad : Bool} (h : InAt w p s bad) (hr : s.size = r) : Calls Try.prog 21 #[.pointer (some ⟨p, 0, none⟩)] w fun e w' => e = .returned (.int .i64 (r : Int)) ∧ w = w' := by
  subst hr; exact left_some h
theorem ListAt.chg {w w' : World} {S : Nat → Prop} {H : Nat} {a : Option Addr} {l : List UInt8} (h : ListAt w H a l) (hc : Chg w w' S) (hS : ∀ k, k < w.heap.size → ¬ S k) : ListAt w' H a l := by
  intro k hk
  obtain ⟨g, e, hg, hcell⟩ := h k hk
  have hlt := World.block_lt_of_cell? w _ hcell
  exact ⟨g, e, hg, (World.cell?_of_block (a := ⟨g, k, none⟩) (hc.block g hlt (hS g hlt))).trans hcell⟩
theorem below_drewN {B : Nat} {a w : World} (h : Below B a w) (n : Nat) : Below B a (w.drewN n) := ⟨h.os, h.tape, h.output, h.size, h.block⟩
/-- what the second half rests on: both have read the same length -/
structure PR (w wx : World) (q : Nat) (a : Option Addr) (R : ByteArray) (n : Nat) : Prop where
  u : At wx q 42 #[.string R, .bool false]
  l : ListAt wx w.heap.size a (R.data.toList.take n)
  below : Below w.heap.size w wx

set_option maxRecDepth 100000 in
set_option maxHeartbeats 6400000 in
theorem packLists_walk (A : Option Addr) (cap : Nat) (zs : List Int) (s : ByteArray) (most : Int) (w : World) (hzi : ∀ z ∈ zs, inI64 z) (hA : IntsAt w w.heap.size A zs) (hlen : zs.length ≤ maxLen) (hs : s.size ≤ maxLen) (hmost : inI64 most) :
    Calls Try.prog 5 #[.slice A zs.length cap, .string s, .int .i64 most] w fun e w' => e = .returned (.bool true) ∧ Below w.heap.size w w' := by
  unfold maxLen at hlen hs
  have HZI := Lib.hid hzi; have HA := Lib.hid hA; clear hzi hA hmost
  by_cases hb1 : 300 < zs.length
  · go_enter Try.func5, Try.ntmps5
    go_wp2_with (go_at_call 8; refine (awake_any _).mono ?_; rintro e w' ⟨rfl, hb⟩)
    go_ret
    exact ⟨rfl, hb⟩
  by_cases hb2 : 1024 < s.size
  · go_enter Try.func5, Try.ntmps5
    go_wp2_with (go_at_call 8; refine (awake_any _).mono ?_; rintro e w' ⟨rfl, hb⟩)
    go_ret
    exact ⟨rfl, hb⟩
  go_enter Try.func5, Try.ntmps5
  go_wp2_with fail
  refine (awake_any _).mono ?_
  rintro e w1 ⟨rfl, hbw1⟩
  have z1 : w.heap.size ≤ w1.heap.size := hbw1.size
  have o1 := Out.new w1 w.heap.size z1
  have b1 : Below w.heap.size w (w1.alloc (.cells #[.slice none 0 0] 27)) := hbw1.alloc z1 _
  have O1 := Lib.hid o1; have B1 := Lib.hid b1; clear o1 b1 hbw1
  go_wp2_with fail
  refine (text_some w.heap.size w1.heap.size _ [] sx _ O1.out (by simp; omega) (by decide) (by simp)).mono ?_
  rintro e w2 ⟨rfl, v2, o2, c2, l2⟩
  rw [kx] at o2
  have pl2 : PL w w2 w1.heap.size v2 := ⟨o2, B1.out.trans (wrote_below O1.out (by simp; omega) c2)⟩
  have P2 := Lib.hid pl2; clear pl2 o2 c2 l2 O1 B1
  go_wp2_with fail
  refine (rnum_ok 2 zs.length _ (by decide) (by omega) (by omega)).mono ?_
  rintro e w3 ⟨rfl, hb3⟩
  have pl3 := P2.out.step hb3
  have P3 := Lib.hid pl3; clear pl3 hb3 P2
  go_wp2_with fail
  go_loopg [8, 10, 11] zs.length (fun g s8 s10 s11 wx => ∃ j : Nat, j ≤ zs.length ∧ g = zs.length - j ∧ s11 = .int .i64 (j : Int) ∧ s8 = .string (textOf (wantL zs.length (zs.take j))) ∧ s10 = .bool (okL (zs.take j)) ∧ PL w wx w1.heap.size v2)
  case atStart => exact ⟨0, Nat.zero_le _, rfl, rfl, by simp [wantL], rfl, P3.out⟩
  case round =>
    obtain ⟨j, hj, hg, rfl, rfl, rfl, hpl⟩ := hrel
    have HG := Lib.hid hg; have HP := Lib.hid hpl; clear hg hpl P3
    have hws : (textOf (wantL zs.length (zs.take j))).size ≤ 3000 := by
      rw [textOf_size]; have := wantL_length zs.length (zs.take j); rw [List.length_take] at this; omega
    by_cases hlt : j < zs.length
    · obtain ⟨b, off, hAe, hb, hcell0⟩ := HA.out j hlt
      subst hAe
      have hcell : wr.cell? ⟨b, off + j, none⟩ = some (.int .i64 (zs.getD j 0)) := (HP.out.below.cell (p := ⟨b, off + j, none⟩) hb).trans hcell0
      have hin := HZI.out (zs.getD j 0) (by simp [hlt])
      have hsn := wantL_snoc zs.length zs j hlt
      have hok := okL_take zs j hlt
      have HIN := Lib.hid hin; have HSN := Lib.hid hsn; have HOKT := Lib.hid hok; clear hin hsn hok hcell0
      generalize zs.getD j 0 = x at hcell HIN HSN HOKT
      have hxs : (textOf (rnumS 1 x)).size ≤ 8 := by rw [textOf_size]; exact rnumS_length _ _
      have hadd : textOf (wantL zs.length (zs.take j)) ++ textOf (rnumS 1 x) = textOf (wantL zs.length (zs.take (j + 1))) := by rw [HSN.out, text_add2]
      have HADD := Lib.hid hadd; clear hadd
      go_wp2_with fail
      refine (rnum_any 1 x _ HIN.out).mono ?_
      rintro e w4 ⟨rfl, hb4⟩
      have pl4 := HP.out.step hb4
      have P4 := Lib.hid pl4; clear pl4 hb4
      cases hall : okL (zs.take j)
      · have e1 : okL (zs.take (j + 1)) = false := by rw [HOKT.out, hall]; rfl
        have E1 := Lib.hid e1; clear e1 hall
        go_wp2_with fail
        go_roundg (zs.length - (j + 1))
        case measure => have := HG.out; omega
        case rel => exact ⟨j + 1, by omega, rfl, by go_num, by rw [← HADD.out], by rw [E1.out], P4.out⟩
      · have e1 : okL (zs.take (j + 1)) = okNums 1 [x] := by rw [HOKT.out, hall]; rfl
        have E1 := Lib.hid e1; clear e1 hall
        go_wp2_with fail
        go_roundg (zs.length - (j + 1))
        case measure => have := HG.out; omega
        case rel => exact ⟨j + 1, by omega, rfl, by go_num, by rw [← HADD.out], by rw [E1.out], P4.out⟩
    · obtain rfl : j = zs.length := by omega
      rw [List.take_of_length_le (Nat.le_refl _)] at hws ⊢
      have HL5 := Lib.hid (list_any w.heap.size w1.heap.size cap A v2 [0, 1, 120] zs wr HP.out.out HP.out.below.size (HA.out.keep HP.out.below.block) HZI.out (by omega) (by simp))
      obtain ⟨T, hT⟩ : ∃ T, textOf (listd zs [0, 1, 120]) = T := ⟨_, rfl⟩
      have HT := Lib.hid hT
      cases hall : okL zs
      · have hE : (⟨#[0, 1, 120]⟩ : ByteArray) ++ ⟨#[]⟩ = T := by rw [← hT]; unfold listd; rw [if_neg (by rw [hall]; decide)]; rfl
        clear hT
        go_wp2_with fail
        refine HL5.out.mono ?_
        rintro e w6 ⟨rfl, v6, o6, c6, l6⟩
        rw [hall]
        have b6 : Below w.heap.size w w6 := HP.out.below.trans (wrote_below HP.out.out HP.out.below.size c6)
        have O6 := Lib.hid o6; have B6 := Lib.hid b6; clear o6 b6 c6 l6 hall
        go_wp2_with fail
        refine (string_some O6.out).mono ?_
        rintro e w' ⟨rfl, rfl⟩
        rw [HT.out]
        go_wp2_with fail
        refine (of_any s _).mono ?_
        rintro e w7 ⟨rfl, h7⟩
        have i7 : InAt w7 w6.heap.size s false := by rw [← h7]; exact At.new _ _ _
        have b7 : Below w.heap.size w w7 := by rw [← h7]; exact B6.out.alloc B6.out.size _
        have hp6 : w.heap.size ≤ w6.heap.size := B6.out.size
        have I7 := Lib.hid i7; have B7 := Lib.hid b7; clear i7 b7 h7
        go_wp2_with fail
        by_cases hr : rdT most s = true
        · obtain ⟨h2, hm, hl⟩ := (rdT_iff _ _).1 hr
          obtain ⟨n, hn⟩ : ∃ n, dec (s.data.toList.take 2) = n := ⟨_, rfl⟩
          have hv2 : inV 2 s = (n : Int) := by unfold inV; rw [if_pos (by rw [rdN_two]; simpa using h2)]; exact congrArg _ hn
          have hs2 : inS 2 s = textOf (s.data.toList.drop 2) := by unfold inS; rw [if_pos (by rw [rdN_two]; simpa using h2)]; rfl
          have hb2' : inB 2 s false = false := by unfold inB; rw [if_pos (by rw [rdN_two]; simpa using h2)]
          have hts : (tS most s).size = s.size - 2 - n := by unfold tS; rw [if_pos hr, textOf_size, List.length_drop, ← Lib.size_eq, hn]; omega
          refine (read_ok most I7.out (by omega) hr).mono ?_
          rintro e w8 ⟨a, cap8, rfl, hla, hin8, hc8⟩
          rw [hn] at hla hl hm ⊢
          obtain ⟨Rr, hRr⟩ : ∃ Rr, textOf (s.data.toList.drop 2) = Rr := ⟨_, rfl⟩
          rw [hRr] at hs2
          have hRd : s.data.toList.drop 2 = Rr.data.toList := by rw [← hRr, textOf_data]
          have hRs : Rr.size = s.size - 2 := by rw [← hRr, textOf_size, List.length_drop, ← Lib.size_eq]
          rw [hRd] at hla
          have hlp : w6.heap.size < w8.heap.size := At.lt hin8
          have b8 : Below w.heap.size w w8 := B7.out.trans (hc8.toBelow B7.out.size (fun k hk e => by omega))
          have ref9 : RefAt (w8.alloc (.cells #[.string s, .bool false] 42)) w8.heap.size s false := ⟨s, At.new _ _ _, fun _ => rfl, (fun h => by cases h), by omega⟩
          have HV2 := Lib.hid hv2; have HS2 := Lib.hid hs2; have HB2 := Lib.hid hb2'; have HTS := Lib.hid hts; have HLA := Lib.hid hla; have HIN8 := Lib.hid hin8; have B8 := Lib.hid b8; have REF9 := Lib.hid ref9; have HRS := Lib.hid hRs; clear hv2 hs2 hb2' hts hla hin8 hc8 b8 ref9 hRs hRr hRd hr hn I7
          go_wp2_with fail
          refine (rinum_any 2 REF9.out).mono ?_
          rintro e w10 ⟨rfl, hr10, hc10⟩
          rw [HV2.out]
          rw [HS2.out, HB2.out] at hr10
          obtain ⟨S, hat, h0, _, _⟩ := hr10
          obtain rfl := h0 rfl
          have c10 : Chg w8 w10 (fun k => k = w8.heap.size) := ((Chg.refl w8 _).alloc _).trans hc10 (fun _ _ e => e)
          have in10 : InAt w10 w6.heap.size (tS most s) false := At.chg HIN8.out c10 (by omega)
          have pr : PR w w10 w8.heap.size a S n := ⟨hat, by
              have := HLA.out.chg c10 (fun k hk e => by omega)
              intro k hk
              obtain ⟨g, e, hg, hcc⟩ := this k hk
              exact ⟨g, e, by have := B7.out.size; omega, hcc⟩, B8.out.trans (c10.toBelow B8.out.size (fun k hk e => by have := B8.out.size; omega))⟩
          have q0 : w10.cell? ⟨w8.heap.size, 0, none⟩ = some (.string S) := by rw [At.cell hat]; rfl
          have q1 : w10.cell? ⟨w8.heap.size, 1, none⟩ = some (.bool false) := by rw [At.cell hat]; rfl
          have IN10 := Lib.hid in10; have PR10 := Lib.hid pr; clear in10 pr hat h0 hc10 c10
          have hnS : (n : Int) ≤ (S.size : Int) := by have := HRS.out; omega
          obtain ⟨r, hrr⟩ : ∃ r : Nat, r = S.size - n := ⟨_, rfl⟩
          have hle : (tS most s).size = r := by rw [HTS.out, hrr, HRS.out]
          have hS9 : S.size ≤ 1024 := by have := HRS.out; omega
          have ew : IntKind.i64.wrap ((S.size : Int) - (n : Int)) = (r : Int) := by rw [show (S.size : Int) - (n : Int) = (r : Int) by omega]; exact IntWalk.i64_in _ (by omega)
          have HLE := Lib.hid hle; have HRR := Lib.hid hrr; clear hle hrr
          have EW := Lib.hid ew; clear ew
          go_wp2_with fail
          have ew := EW.out
          go_quiet ((first | (go_at_call 20; exact quietL (bad_some (IN10.out.drewN _))) | (go_at_call 21; exact quietL (left_val (IN10.out.drewN _) HLE.out))))
          clear ew
          go_wp2_with fail
          generalize hq : w8.heap.size = q at PR10 q0 q1 ⊢
          clear hq
          go_loopg [18] n (fun g s18 wx => ∃ k : Nat, k ≤ n ∧ g = n - k ∧ s18 = .int .i64 (k : Int) ∧ PR w wx q a S n)
          case atStart => exact ⟨0, Nat.zero_le _, rfl, rfl, ⟨PR10.out.u, PR10.out.l, below_drewN PR10.out.below _⟩⟩
          case round =>
            obtain ⟨k, hk, hg2, rfl, hpr⟩ := hrel
            have HG2 := Lib.hid hg2; have HPR := Lib.hid hpr; clear hg2 hpr PR10 q0 q1
            by_cases hlt2 : k < n
            · obtain ⟨g, hae, _, hcell⟩ := HPR.out.l k (by rw [List.length_take, ← Lib.size_eq]; omega)
              subst hae
              have q0 : wr.cell? ⟨q, 0, none⟩ = some (.string S) := by rw [At.cell HPR.out.u]; rfl
              have hkS : k < S.size := by omega
              have hv : (S.data.toList.take n).getD k 0 = S[k] := by simp [List.getD, hlt2, hkS]; rfl
              rw [hv] at hcell
              clear hv
              have hb8 : S[k].toNat < 256 := S[k].toNat_lt
              have hwb : IntKind.i64.wrap (S[k].toNat : Int) = (S[k].toNat : Int) := IntWalk.i64_in _ (by omega)
              have HWB := Lib.hid hwb; clear hwb
              go_wp2_with fail
              have hwb := HWB.out
              go_quiet (fail)
              go_wp2_with fail
              go_roundg (n - (k + 1))
              case measure => have := HG2.out; omega
              case rel => exact ⟨k + 1, by omega, rfl, by go_num, ⟨HPR.out.u, HPR.out.l, below_drewN HPR.out.below _⟩⟩
            · obtain rfl : k = n := by omega
              go_wp2_with fail
              refine (list_nilo _ _ _).mono ?_
              rintro e w11 ⟨rfl, hb11⟩
              have b11 := HPR.out.below.trans (hb11.mono HPR.out.below.size)
              have B11 := Lib.hid b11; clear b11 hb11
              go_wp2_with fail
              refine (list_nilf _ _ _).mono ?_
              rintro e w12 ⟨rfl, hb12⟩
              have b12 := B11.out.trans (hb12.mono B11.out.size)
              have B12 := Lib.hid b12; clear b12 hb12
              go_wp2_with fail
              refine (read_nil 5 _ (by decide)).mono ?_
              rintro e w13 ⟨rfl, hb13⟩
              have b13 := B12.out.trans (hb13.mono B12.out.size)
              have B13 := Lib.hid b13; clear b13 hb13
              go_wp2_with fail
              go_ret
              exact ⟨rfl, B13.out⟩
        · have hr' : rdT most s = false := by simpa using hr
          refine (read_bad most I7.out (by omega) hr' (.inl rfl)).mono ?_
          rintro e w8 ⟨rfl, hin8, hc8⟩
          have hlp : w6.heap.size < w8.heap.size := At.lt hin8
          have b8 : Below w.heap.size w w8 := B7.out.trans (hc8.toBelow B7.out.size (fun k hk e => by omega))
          have ref9 : RefAt (w8.alloc (.cells #[.string s, .bool false] 42)) w8.heap.size s false := ⟨s, At.new _ _ _, fun _ => rfl, (fun h => by cases h), by omega⟩
          have HIN8 := Lib.hid hin8; have B8 := Lib.hid b8; have REF9 := Lib.hid ref9; have HR0 := Lib.hid hr'; clear hin8 hc8 b8 ref9 hr hr' I7
          go_wp2_with fail
          refine (rinum_any 2 REF9.out).mono ?_
          rintro e w10 ⟨rfl, hr10, hc10⟩
          have c10 : Chg w8 w10 (fun k => k = w8.heap.size) := ((Chg.refl w8 _).alloc _).trans hc10 (fun _ _ e => e)
          have in10 : InAt w10 w6.heap.size ⟨#[]⟩ true := At.chg HIN8.out c10 (by omega)
          have b10 : Below w.heap.size w w10 := B8.out.trans (c10.toBelow B8.out.size (fun k hk e => by have := B8.out.size; omega))
          have IN10 := Lib.hid in10; have B10 := Lib.hid b10; clear in10 b10 hc10 c10
          by_cases h2 : 2 ≤ s.size
          · obtain ⟨n, hn⟩ : ∃ n, dec (s.data.toList.take 2) = n := ⟨_, rfl⟩
            have hd2 := dec2 s
            rw [hn] at hd2
            have hv2 : inV 2 s = (n : Int) := by unfold inV; rw [if_pos (by rw [rdN_two]; simpa using h2)]; exact congrArg _ hn
            have hs2 : inS 2 s = textOf (s.data.toList.drop 2) := by unfold inS; rw [if_pos (by rw [rdN_two]; simpa using h2)]; rfl
            have hb2' : inB 2 s false = false := by unfold inB; rw [if_pos (by rw [rdN_two]; simpa using h2)]
            have hno : ¬ ((n : Int) ≤ most ∧ n + 2 ≤ s.size) := fun h9 => by
              have := (rdT_iff most s).2 ⟨h2, by rw [hn]; exact h9.1, by rw [hn]; exact h9.2⟩
              rw [HR0.out] at this; cases this
            rw [hs2, hb2'] at hr10
            rw [hv2]
            obtain ⟨S, hat, h0, _, _⟩ := hr10
            obtain rfl := h0 rfl
            have hSs : (textOf (s.data.toList.drop 2)).size = s.size - 2 := by rw [textOf_size, List.length_drop, ← Lib.size_eq]
            generalize textOf (s.data.toList.drop 2) = S at hat hSs
            have q0 : w10.cell? ⟨w8.heap.size, 0, none⟩ = some (.string S) := by rw [At.cell hat]; rfl
            have q1 : w10.cell? ⟨w8.heap.size, 1, none⟩ = some (.bool false) := by rw [At.cell hat]; rfl
            clear hat h0 hv2 hs2 hb2' hn
            by_cases hm : most < (n : Int)
            · clear hno hSs
              go_wp2_with (go_at_call 20; refine (bad_some IN10.out).mono ?_; rintro e w' ⟨rfl, rfl⟩)
              go_ret
              exact ⟨rfl, B10.out⟩
            · have hgt : (S.size : Int) < (n : Int) := by
                have : ¬ n + 2 ≤ s.size := fun h9 => hno ⟨by omega, h9⟩
                omega
              have hm' : (n : Int) ≤ most := by omega
              clear hno hSs hm
              go_wp2_with (go_at_call 20; refine (bad_some IN10.out).mono ?_; rintro e w' ⟨rfl, rfl⟩)
              go_ret
              exact ⟨rfl, B10.out⟩
          · have hb2' : inB 2 s false = true := by unfold inB; rw [if_neg (by rw [rdN_two]; simpa using h2)]
            rw [hb2'] at hr10
            obtain ⟨S, hat, _, _, _⟩ := hr10
            have q0 : w10.cell? ⟨w8.heap.size, 0, none⟩ = some (.string S) := by rw [At.cell hat]; rfl
            have q1 : w10.cell? ⟨w8.heap.size, 1, none⟩ = some (.bool true) := by rw [At.cell hat]; rfl
            clear hat hb2'
            go_wp2_with (go_at_call 20; refine (bad_some IN10.out).mono ?_; rintro e w' ⟨rfl, rfl⟩)
            go_ret
            exact ⟨rfl, B10.out⟩
      · have hE : (⟨#[0, 1, 120]⟩ : ByteArray) ++ textOf (wantL zs.length zs) = T := by rw [← hT]; unfold listd; rw [if_pos hall, wantL_ok hall, List.append_assoc]; exact text_add2 [0, 1, 120] _
        clear hT
        go_wp2_with fail
        refine HL5.out.mono ?_
        rintro e w6 ⟨rfl, v6, o6, c6, l6⟩
        rw [hall]
        have b6 : Below w.heap.size w w6 := HP.out.below.trans (wrote_below HP.out.out HP.out.below.size c6)
        have O6 := Lib.hid o6; have B6 := Lib.hid b6; clear o6 b6 c6 l6 hall
        go_wp2_with fail
        refine (string_some O6.out).mono ?_
        rintro e w' ⟨rfl, rfl⟩
        rw [HT.out]
        go_wp2_with fail
        refine (of_any s _).mono ?_
        rintro e w7 ⟨rfl, h7⟩
        have i7 : InAt w7 w6.heap.size s false := by rw [← h7]; exact At.new _ _ _
        have b7 : Below w.heap.size w w7 := by rw [← h7]; exact B6.out.alloc B6.out.size _
        have hp6 : w.heap.size ≤ w6.heap.size := B6.out.size
        have I7 := Lib.hid i7; have B7 := Lib.hid b7; clear i7 b7 h7
        go_wp2_with fail
        by_cases hr : rdT most s = true
        · obtain ⟨h2, hm, hl⟩ := (rdT_iff _ _).1 hr
          obtain ⟨n, hn⟩ : ∃ n, dec (s.data.toList.take 2) = n := ⟨_, rfl⟩
          have hv2 : inV 2 s = (n : Int) := by unfold inV; rw [if_pos (by rw [rdN_two]; simpa using h2)]; exact congrArg _ hn
          have hs2 : inS 2 s = textOf (s.data.toList.drop 2) := by unfold inS; rw [if_pos (by rw [rdN_two]; simpa using h2)]; rfl
          have hb2' : inB 2 s false = false := by unfold inB; rw [if_pos (by rw [rdN_two]; simpa using h2)]
          have hts : (tS most s).size = s.size - 2 - n := by unfold tS; rw [if_pos hr, textOf_size, List.length_drop, ← Lib.size_eq, hn]; omega
          refine (read_ok most I7.out (by omega) hr).mono ?_
          rintro e w8 ⟨a, cap8, rfl, hla, hin8, hc8⟩
          rw [hn] at hla hl hm ⊢
          obtain ⟨Rr, hRr⟩ : ∃ Rr, textOf (s.data.toList.drop 2) = Rr := ⟨_, rfl⟩
          rw [hRr] at hs2
          have hRd : s.data.toList.drop 2 = Rr.data.toList := by rw [← hRr, textOf_data]
          have hRs : Rr.size = s.size - 2 := by rw [← hRr, textOf_size, List.length_drop, ← Lib.size_eq]
          rw [hRd] at hla
          have hlp : w6.heap.size < w8.heap.size := At.lt hin8
          have b8 : Below w.heap.size w w8 := B7.out.trans (hc8.toBelow B7.out.size (fun k hk e => by omega))
          have ref9 : RefAt (w8.alloc (.cells #[.string s, .bool false] 42)) w8.heap.size s false := ⟨s, At.new _ _ _, fun _ => rfl, (fun h => by cases h), by omega⟩
          have HV2 := Lib.hid hv2; have HS2 := Lib.hid hs2; have HB2 := Lib.hid hb2'; have HTS := Lib.hid hts; have HLA := Lib.hid hla; have HIN8 := Lib.hid hin8; have B8 := Lib.hid b8; have REF9 := Lib.hid ref9; have HRS := Lib.hid hRs; clear hv2 hs2 hb2' hts hla hin8 hc8 b8 ref9 hRs hRr hRd hr hn I7
          go_wp2_with fail
          refine (rinum_any 2 REF9.out).mono ?_
          rintro e w10 ⟨rfl, hr10, hc10⟩
          rw [HV2.out]
          rw [HS2.out, HB2.out] at hr10
          obtain ⟨S, hat, h0, _, _⟩ := hr10
          obtain rfl := h0 rfl
          have c10 : Chg w8 w10 (fun k => k = w8.heap.size) := ((Chg.refl w8 _).alloc _).trans hc10 (fun _ _ e => e)
          have in10 : InAt w10 w6.heap.size (tS most s) false := At.chg HIN8.out c10 (by omega)
          have pr : PR w w10 w8.heap.size a S n := ⟨hat, by
              have := HLA.out.chg c10 (fun k hk e => by omega)
              intro k hk
              obtain ⟨g, e, hg, hcc⟩ := this k hk
              exact ⟨g, e, by have := B7.out.size; omega, hcc⟩, B8.out.trans (c10.toBelow B8.out.size (fun k hk e => by have := B8.out.size; omega))⟩
          have q0 : w10.cell? ⟨w8.heap.size, 0, none⟩ = some (.string S) := by rw [At.cell hat]; rfl
          have q1 : w10.cell? ⟨w8.heap.size, 1, none⟩ = some (.bool false) := by rw [At.cell hat]; rfl
          have IN10 := Lib.hid in10; have PR10 := Lib.hid pr; clear in10 pr hat h0 hc10 c10
          have hnS : (n : Int) ≤ (S.size : Int) := by have := HRS.out; omega
          obtain ⟨r, hrr⟩ : ∃ r : Nat, r = S.size - n := ⟨_, rfl⟩
          have hle : (tS most s).size = r := by rw [HTS.out, hrr, HRS.out]
          have hS9 : S.size ≤ 1024 := by have := HRS.out; omega
          have ew : IntKind.i64.wrap ((S.size : Int) - (n : Int)) = (r : Int) := by rw [show (S.size : Int) - (n : Int) = (r : Int) by omega]; exact IntWalk.i64_in _ (by omega)
          have HLE := Lib.hid hle; have HRR := Lib.hid hrr; clear hle hrr
          have EW := Lib.hid ew; clear ew
          go_wp2_with fail
          have ew := EW.out
          go_quiet ((first | (go_at_call 20; exact quietL (bad_some (IN10.out.drewN _))) | (go_at_call 21; exact quietL (left_val (IN10.out.drewN _) HLE.out))))
          clear ew
          go_wp2_with fail
          generalize hq : w8.heap.size = q at PR10 q0 q1 ⊢
          clear hq
          go_loopg [18] n (fun g s18 wx => ∃ k : Nat, k ≤ n ∧ g = n - k ∧ s18 = .int .i64 (k : Int) ∧ PR w wx q a S n)
          case atStart => exact ⟨0, Nat.zero_le _, rfl, rfl, ⟨PR10.out.u, PR10.out.l, below_drewN PR10.out.below _⟩⟩
          case round =>
            obtain ⟨k, hk, hg2, rfl, hpr⟩ := hrel
            have HG2 := Lib.hid hg2; have HPR := Lib.hid hpr; clear hg2 hpr PR10 q0 q1
            by_cases hlt2 : k < n
            · obtain ⟨g, hae, _, hcell⟩ := HPR.out.l k (by rw [List.length_take, ← Lib.size_eq]; omega)
              subst hae
              have q0 : wr.cell? ⟨q, 0, none⟩ = some (.string S) := by rw [At.cell HPR.out.u]; rfl
              have hkS : k < S.size := by omega
              have hv : (S.data.toList.take n).getD k 0 = S[k] := by simp [List.getD, hlt2, hkS]; rfl
              rw [hv] at hcell
              clear hv
              have hb8 : S[k].toNat < 256 := S[k].toNat_lt
              have hwb : IntKind.i64.wrap (S[k].toNat : Int) = (S[k].toNat : Int) := IntWalk.i64_in _ (by omega)
              have HWB := Lib.hid hwb; clear hwb
              go_wp2_with fail
              have hwb := HWB.out
              go_quiet (fail)
              go_wp2_with fail
              go_roundg (n - (k + 1))
              case measure => have := HG2.out; omega
              case rel => exact ⟨k + 1, by omega, rfl, by go_num, ⟨HPR.out.u, HPR.out.l, below_drewN HPR.out.below _⟩⟩
            · obtain rfl : k = n := by omega
              go_wp2_with fail
              refine (list_nilo _ _ _).mono ?_
              rintro e w11 ⟨rfl, hb11⟩
              have b11 := HPR.out.below.trans (hb11.mono HPR.out.below.size)
              have B11 := Lib.hid b11; clear b11 hb11
              go_wp2_with fail
              refine (list_nilf _ _ _).mono ?_
              rintro e w12 ⟨rfl, hb12⟩
              have b12 := B11.out.trans (hb12.mono B11.out.size)
              have B12 := Lib.hid b12; clear b12 hb12
              go_wp2_with fail
              refine (read_nil 5 _ (by decide)).mono ?_
              rintro e w13 ⟨rfl, hb13⟩
              have b13 := B12.out.trans (hb13.mono B12.out.size)
              have B13 := Lib.hid b13; clear b13 hb13
              go_wp2_with fail
              go_ret
              exact ⟨rfl, B13.out⟩
        · have hr' : rdT most s = false := by simpa using hr
          refine (read_bad most I7.out (by omega) hr' (.inl rfl)).mono ?_
          rintro e w8 ⟨rfl, hin8, hc8⟩
          have hlp : w6.heap.size < w8.heap.size := At.lt hin8
          have b8 : Below w.heap.size w w8 := B7.out.trans (hc8.toBelow B7.out.size (fun k hk e => by omega))
          have ref9 : RefAt (w8.alloc (.cells #[.string s, .bool false] 42)) w8.heap.size s false := ⟨s, At.new _ _ _, fun _ => rfl, (fun h => by cases h), by omega⟩
          have HIN8 := Lib.hid hin8; have B8 := Lib.hid b8; have REF9 := Lib.hid ref9; have HR0 := Lib.hid hr'; clear hin8 hc8 b8 ref9 hr hr' I7
          go_wp2_with fail
          refine (rinum_any 2 REF9.out).mono ?_
          rintro e w10 ⟨rfl, hr10, hc10⟩
          have c10 : Chg w8 w10 (fun k => k = w8.heap.size) := ((Chg.refl w8 _).alloc _).trans hc10 (fun _ _ e => e)
          have in10 : InAt w10 w6.heap.size ⟨#[]⟩ true := At.chg HIN8.out c10 (by omega)
          have b10 : Below w.heap.size w w10 := B8.out.trans (c10.toBelow B8.out.size (fun k hk e => by have := B8.out.size; omega))
          have IN10 := Lib.hid in10; have B10 := Lib.hid b10; clear in10 b10 hc10 c10
          by_cases h2 : 2 ≤ s.size
          · obtain ⟨n, hn⟩ : ∃ n, dec (s.data.toList.take 2) = n := ⟨_, rfl⟩
            have hd2 := dec2 s
            rw [hn] at hd2
            have hv2 : inV 2 s = (n : Int) := by unfold inV; rw [if_pos (by rw [rdN_two]; simpa using h2)]; exact congrArg _ hn
            have hs2 : inS 2 s = textOf (s.data.toList.drop 2) := by unfold inS; rw [if_pos (by rw [rdN_two]; simpa using h2)]; rfl
            have hb2' : inB 2 s false = false := by unfold inB; rw [if_pos (by rw [rdN_two]; simpa using h2)]
            have hno : ¬ ((n : Int) ≤ most ∧ n + 2 ≤ s.size) := fun h9 => by
              have := (rdT_iff most s).2 ⟨h2, by rw [hn]; exact h9.1, by rw [hn]; exact h9.2⟩
              rw [HR0.out] at this; cases this
            rw [hs2, hb2'] at hr10
            rw [hv2]
            obtain ⟨S, hat, h0, _, _⟩ := hr10
            obtain rfl := h0 rfl
            have hSs : (textOf (s.data.toList.drop 2)).size = s.size - 2 := by rw [textOf_size, List.length_drop, ← Lib.size_eq]
            generalize textOf (s.data.toList.drop 2) = S at hat hSs
            have q0 : w10.cell? ⟨w8.heap.size, 0, none⟩ = some (.string S) := by rw [At.cell hat]; rfl
            have q1 : w10.cell? ⟨w8.heap.size, 1, none⟩ = some (.bool false) := by rw [At.cell hat]; rfl
            clear hat h0 hv2 hs2 hb2' hn
            by_cases hm : most < (n : Int)
            · clear hno hSs
              go_wp2_with (go_at_call 20; refine (bad_some IN10.out).mono ?_; rintro e w' ⟨rfl, rfl⟩)
              go_ret
              exact ⟨rfl, B10.out⟩
            · have hgt : (S.size : Int) < (n : Int) := by
                have : ¬ n + 2 ≤ s.size := fun h9 => hno ⟨by omega, h9⟩
                omega
              have hm' : (n : Int) ≤ most := by omega
              clear hno hSs hm
              go_wp2_with (go_at_call 20; refine (bad_some IN10.out).mono ?_; rintro e w' ⟨rfl, rfl⟩)
              go_ret
              exact ⟨rfl, B10.out⟩
          · have hb2' : inB 2 s false = true := by unfold inB; rw [if_neg (by rw [rdN_two]; simpa using h2)]
            rw [hb2'] at hr10
            obtain ⟨S, hat, _, _, _⟩ := hr10
            have q0 : w10.cell? ⟨w8.heap.size, 0, none⟩ = some (.string S) := by rw [At.cell hat]; rfl
            have q1 : w10.cell? ⟨w8.heap.size, 1, none⟩ = some (.bool true) := by rw [At.cell hat]; rfl
            clear hat hb2'
            go_wp2_with (go_at_call 20; refine (bad_some IN10.out).mono ?_; rintro e w' ⟨rfl, rfl⟩)
            go_ret
            exact ⟨rfl, B10.out⟩
end Go.Proofs.Ytoijipahcpdhcaa
