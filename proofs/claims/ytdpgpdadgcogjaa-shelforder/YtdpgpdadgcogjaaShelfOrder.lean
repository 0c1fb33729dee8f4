/- ShelfOrder: the walk. -/
import Derived.Test.YtdpgpdadgcogjaaOrdA
namespace Go.Proofs.Ytdpgpdadgcogjaa
open Go.RowKit Go.Lib Plain
set_option linter.unusedVariables false

theorem take_snoc {α : Type} (l : List α) (j : Nat) (hj : j < l.length) : l.take (j + 1) = l.take j ++ [l[j]] := by
  rw [List.take_add_one, List.getElem?_eq_getElem hj]; rfl
/-- within the second loop: both shelves, and what is left -/
structure OSt (w wx : World) (p5 p8 : Nat) (oa ob : Option Addr) (la lb : List KV) (rv : Value) (rest S ks : List ByteArray) : Prop where
  a : Var wx p5 oa la 40
  b : Var wx p8 ob lb 40
  own : Own eS wx w.heap.size rv rest
  bel : Below w.heap.size w wx
  good : Good lb S
  all : ∀ j, (j ∈ S ∨ j ∈ rest) ↔ j ∈ ks
  len : S.length + rest.length = ks.length
theorem OSt.below {w wx wy : World} {p5 p8 : Nat} {oa ob : Option Addr} {la lb : List KV} {rv : Value} {rest S ks : List ByteArray} (h : OSt w wx p5 p8 oa ob la lb rv rest S ks) (hb : Below wx.heap.size wx wy) : OSt w wy p5 p8 oa ob la lb rv rest S ks :=
  ⟨h.a.step hb, h.b.step hb, h.own.below hb, h.bel.trans (hb.mono h.bel.size), h.good, h.all, h.len⟩
theorem cut_all {S rest ks : List ByteArray} {a : Nat} (ha : a < rest.length) (h : ∀ j, (j ∈ S ∨ j ∈ rest) ↔ j ∈ ks) : ∀ j, (j ∈ S ++ [rest[a]] ∨ j ∈ rest.take a ++ rest.drop (a + 1)) ↔ j ∈ ks := by
  intro j
  rw [← h j]
  have e : rest = rest.take a ++ rest[a] :: rest.drop (a + 1) := by rw [List.getElem_cons_drop, List.take_append_drop]
  have e2 : j ∈ rest ↔ (j ∈ rest.take a ∨ j = rest[a] ∨ j ∈ rest.drop (a + 1)) := by
    conv => lhs; rw [e]
    rw [List.mem_append, List.mem_cons]
  rw [e2]
  simp only [List.mem_append, List.mem_singleton]
  constructor
  · rintro ((h | h) | (h | h))
    · exact .inl h
    · exact .inr (.inr (.inl h))
    · exact .inr (.inl h)
    · exact .inr (.inr (.inr h))
  · rintro (h | h | h | h)
    · exact .inl (.inl h)
    · exact .inr (.inl h)
    · exact .inl (.inr h)
    · exact .inr (.inr h)
theorem cut_len {rest : List ByteArray} {a : Nat} (ha : a < rest.length) : (rest.take a ++ rest.drop (a + 1)).length = rest.length - 1 := by
  rw [List.length_append, List.length_take, List.length_drop]; omega
/-- a text of a row that a call owns -/
theorem Own.txt {w : World} {B g n cap j : Nat} {xs : List ByteArray} (h : Own eS w B (.slice (some ⟨g, 0, none⟩) n cap) xs) (hj : j < xs.length) : w.cell? ⟨g, j, none⟩ = some (.string xs[j]) := by
  obtain ⟨O, c, hv, _, hr⟩ := h.rd
  injection hv with e1 e2 e3
  obtain ⟨b, off, e, _, k⟩ := hr j xs[j] (List.getElem?_eq_getElem hj)
  rw [← e1] at e
  injection e with e
  injection e with f1 f2
  subst f1; subst f2
  have := k 0 (.string xs[j]) rfl
  have e : eS.s = 1 := rfl
  rw [e, Nat.mul_one, Nat.zero_add, Nat.add_zero] at this
  exact this
theorem at_of (z : Int) (R : Nat) (h0 : 0 < R) (h1 : R ≤ 40) : ∃ a : Nat, a < R ∧ wrap64 ((IntKind.u64.wrap z).tmod (R : Int)) = (a : Int) := by
  have h := wrap_u64_nonneg z
  rw [Int.tmod_eq_emod_of_nonneg h]
  have h2 := Int.emod_nonneg (IntKind.u64.wrap z) (show (R : Int) ≠ 0 by omega)
  have h3 := Int.emod_lt_of_pos (IntKind.u64.wrap z) (show (0 : Int) < (R : Int) by omega)
  refine ⟨((IntKind.u64.wrap z) % (R : Int)).toNat, by omega, ?_⟩
  rw [IntWalk.wrap64_in _ (by omega)]
  omega
set_option maxRecDepth 100000 in
set_option maxHeartbeats 12800000 in
theorem shelfOrder_walk (A : Option Addr) (ca : Nat) (ks : List ByteArray) (A2 : Option Addr) (ca2 : Nat) (zs : List Int) (w : World) (hks : ∀ y ∈ ks, y.size ≤ maxLen) (hA : StrsAt w w.heap.size A ks) (hl : ks.length ≤ maxLen) (hnil : A = none → ca = 0) (_ : ∀ y ∈ zs, inI64 y) (hA2 : IntsAt w w.heap.size A2 zs) (hl2 : zs.length ≤ maxLen) :
    Calls Try.prog 5 #[.slice A ks.length ca, .slice A2 zs.length ca2] w fun e w' => e = .returned (.bool true) ∧ Below w.heap.size w w' := by
  unfold maxLen at hl hl2 hks
  by_cases g1 : 40 < ks.length
  · clear hA hA2
    go_enter Try.func5, Try.ntmps5
    go_wp2_with (go_at_call 7; refine (awake_any _).mono ?_; rintro e w' ⟨rfl, hg⟩)
    go_ret
    exact ⟨rfl, hg⟩
  have CN := Lib.hid (fun W => new_any 40 W)
  have hrm : rm 40 = 40 := rfl
  rw [hrm] at CN
  have HA := Lib.hid hA; have HA2 := Lib.hid hA2; have HNIL := Lib.hid hnil
  clear hA hA2 hnil hl hks
  have hn40 : ks.length ≤ 40 := by omega
  obtain ⟨n, hn⟩ : ∃ n, ks.length = n := ⟨_, rfl⟩
  have HN := Lib.hid hn
  rw [hn] at g1 hn40 ⊢
  clear hn
  obtain ⟨nz, hnz⟩ : ∃ n, zs.length = n := ⟨_, rfl⟩
  have HNZ := Lib.hid hnz
  rw [hnz] at hl2 ⊢
  clear hnz
  go_enter Try.func5, Try.ntmps5
  go_wp2_with (go_at_call 7; refine (awake_any _).mono ?_; rintro e w0 ⟨rfl, hb0⟩)
  refine (CN.out _).mono ?_
  rintro e w1 ⟨v1, rfl, s1, d1⟩
  obtain ⟨o1, rfl⟩ := s1.form' 0 40 rfl rfl
  have hv : Var (w1.alloc (.cells #[.pointer o1, .int .i64 0, .int .i64 40] 26)) w1.heap.size o1 [] 40 := Var.new (l := []) (room := 40) s1
  have bn := below_new w1 (.cells #[.pointer o1, .int .i64 0, .int .i64 40] 26)
  have b1 := hb0.trans (d1.mono hb0.size)
  have V1 := Lib.hid hv; have B1 := Lib.hid (b1.trans (bn.mono b1.size))
  have hlo : w.heap.size ≤ w1.heap.size := b1.size
  clear hv bn b1 s1 d1 hb0
  go_wp2_with fail
  obtain ⟨W1, hW1⟩ : ∃ W1, w1.alloc (.cells #[.pointer o1, .int .i64 0, .int .i64 40] 26) = W1 := ⟨_, rfl⟩
  rw [hW1] at V1 B1 ⊢
  clear hW1
  generalize w1.heap.size = p5 at *
  go_loopg [6] n (fun gh s6 wx => ∃ (j : Nat) (o : Option Addr) (l : List KV), j ≤ n ∧ gh = n - j ∧ s6 = .int .i64 (j : Int) ∧ Var wx p5 o l 40 ∧ Below w.heap.size w wx ∧ Good l (ks.take j))
  case atStart => exact ⟨0, o1, [], Nat.zero_le _, rfl, rfl, V1.out, B1.out, good_nil⟩
  case round =>
    obtain ⟨j, o2, l1, hj, hg, rfl, hvv, hbb, hgood⟩ := hrel
    have HG := Lib.hid hg; have VR := Lib.hid hvv; have BR := Lib.hid hbb; have HGD := Lib.hid hgood
    clear hg hvv hbb hgood V1 B1
    by_cases hlt : j < n
    · have hjj : j < ks.length := by rw [HN.out]; exact hlt
      obtain ⟨b, off, rfl, hbl, c0⟩ := (HA.out.keep BR.out) j hjj
      have hgd : ks.getD j ByteArray.empty = ks[j] := by simp [List.getD, hjj]
      rw [hgd] at c0
      have hsn := take_snoc ks j hjj
      have hgs := HGD.out.step (by rw [List.length_take]; omega) ks[j]
      rw [← hsn] at hgs
      generalize ks[j] = k at *
      have HGS := Lib.hid hgs
      clear hgd hsn hgs
      have b3 : (j : Int) < (n : Int) := by omega
      have b4 : (0 : Int) ≤ (j : Int) := by omega
      by_cases hks : 10 < k.size
      · have hks2 : (10 : Int) < (k.size : Int) := by omega
        clear VR
        go_wp2_with fail
        go_ret
        exact ⟨rfl, BR.out⟩
      · have hks2 : ¬ (10 : Int) < (k.size : Int) := by omega
        have c0' : wr.drew.cell? ⟨b, off + j, none⟩ = some (.string k) := c0
        have BD := Lib.hid (Below.refl wr.heap.size wr).drew
        have cw : ∀ W, Below wr.heap.size wr W → Calls Try.prog 9 #[.agg #[.pointer o2, .int .i64 (l1.length : Int), .int .i64 40], .string k, .int .i64 (k.size : Int)] W (WithPost W l1 40 k (k.size : Int)) := fun W hb => With_any k (k.size : Int) (VR.out.step hb).sat
        have CW := Lib.hid cw; clear cw
        obtain ⟨q0, q1, q2⟩ := VR.out.c
        have BRD := Lib.hid BR.out.drew
        go_wp2_with fail
        go_region_with (go_at_call 9; (refine (CW.out _ BD.out).mono ?_); rintro e w7 ⟨v7, rfl, s7, d7⟩; obtain ⟨o7, rfl⟩ := s7.form; have v7 := (VR.out.step BD.out).step d7; have b7 := BRD.out.trans (d7.mono BRD.out.size); obtain ⟨r0, r1, r2⟩ := v7.c; have y0 := v7.at_.frozen 0; have y1 := v7.at_.frozen 1; have y2 := v7.at_.frozen 2; have V8 := Lib.hid (v7.put s7); have B8 := Lib.hid (Below.store (x := .pointer o7) (y := .int .i64 ((wput 40 k (k.size : Int) l1).length : Int)) (z := .int .i64 ((40 : Nat) : Int)) b7 hlo); clear v7 s7 d7 b7)
        all_goals
          go_wp2_with fail
          go_roundg (n - (j + 1))
          case measure => have := HG.out; omega
          case rel => exact ⟨j + 1, o7, _, by omega, rfl, rfl, V8.out, B8.out, HGS.out⟩
    · obtain rfl : j = n := by omega
      have hga := HGD.out
      rw [← HN.out, List.take_length] at hga
      have HGA := Lib.hid hga
      clear hga HGD
      obtain ⟨v1, wk, hrun, hok, dk⟩ := copy_keys (cap := ca) (show StrsAt wr wr.heap.size A ks from fun i hi => by
        obtain ⟨b, off, e, hlt, r⟩ := (HA.out.keep BR.out) i hi
        exact ⟨b, off, e, Nat.lt_of_lt_of_le hlt BR.out.size, r⟩) HNIL.out (by rw [HN.out]; omega)
      rw [HN.out] at hrun
      have HRUN := Lib.hid hrun; have HOK := Lib.hid (hok.mono BR.out.size); have DK := Lib.hid dk
      clear hrun hok dk hlt
      go_wp2_with (at_builtin; (refine Lib.wpList_append_run _ rfl (.tmp 49) (.tmp 50) 52 52 rfl _ _ rfl rfl v1 wk HRUN.out ?_))
      refine (CN.out _).mono ?_
      rintro e w3 ⟨v3, rfl, s3, d3⟩
      obtain ⟨o3, rfl⟩ := s3.form' 0 40 rfl rfl
      have hv : Var (w3.alloc (.cells #[.pointer o3, .int .i64 0, .int .i64 40] 26)) w3.heap.size o3 [] 40 := Var.new (l := []) (room := 40) s3
      have bn := below_new w3 (.cells #[.pointer o3, .int .i64 0, .int .i64 40] 26)
      have dd := (DK.out.trans (d3.mono DK.out.size)).trans (bn.mono (Nat.le_trans DK.out.size d3.size))
      have va := VR.out.step dd
      have hpp : p5 < w3.heap.size := ((VR.out.step DK.out).step d3).at_.lt
      have hst : OSt w (w3.alloc (.cells #[.pointer o3, .int .i64 0, .int .i64 40] 26)) p5 w3.heap.size o2 o3 l1 [] v1 ks [] ks :=
        ⟨va, hv, (HOK.out.below d3).below bn, BR.out.trans (dd.mono BR.out.size), good_nil, fun j => by simp, by simp⟩
      have hlo8 : w.heap.size ≤ w3.heap.size := Nat.le_trans hlo (Nat.le_of_lt hpp)
      have HST := Lib.hid hst
      clear hv bn dd va hst s3 d3 HRUN HOK DK VR BR
      go_wp2_with fail
      obtain ⟨W4, hW4⟩ : ∃ W4, w3.alloc (.cells #[.pointer o3, .int .i64 0, .int .i64 40] 26) = W4 := ⟨_, rfl⟩
      rw [hW4] at HST ⊢
      clear hW4
      generalize w3.heap.size = p8 at *
      clear HG HA HNIL CN hj hlo
      go_loopg [9, 7] ks.length (fun gh s9 s7 wx => ∃ (i : Nat) (ob : Option Addr) (lb : List KV) (rv : Value) (rest S : List ByteArray), gh = rest.length ∧ i + rest.length = ks.length ∧ s9 = .int .i64 (i : Int) ∧ rv = s7 ∧ OSt w wx p5 p8 o2 ob l1 lb rv rest S ks)
      case atStart => exact ⟨0, o3, [], v1, ks, [], rfl, by simp, rfl, rfl, HST.out⟩
      case round =>
        obtain ⟨i, ob, lb, rv, rest, S, hg, hil, rfl, rfl, hst⟩ := hrel
        have HG := Lib.hid hg; have KST := Lib.hid hst; have HIL := Lib.hid hil
        clear hg hst hil HST
        have hk40 : ks.length ≤ 40 := by rw [HN.out]; omega
        have HK40 := Lib.hid hk40
        clear hk40
        by_cases hr0 : rest = []
        · subst hr0
          obtain ⟨O, cp, rfl⟩ := KST.out.own.slice
          have hlb : l1 = lb := HGA.out.eq KST.out.good (fun j => by have := KST.out.all j; simp at this; exact this.symm)
          subst hlb
          have VA := Lib.hid KST.out.a; have VB := Lib.hid KST.out.b; have BW := Lib.hid KST.out.bel
          have HRI := Lib.hid HGA.out.rise
          have hyes : ∀ x ∈ l1, get x.1 l1 = some (x.1.size : Int) := fun x hx => HGA.out.yes _ (HGA.out.has hx)
          have HYES := Lib.hid hyes
          have hl40 : l1.length ≤ 40 := KST.out.a.sat.le.1
          obtain ⟨q0, q1, q2⟩ := KST.out.a.c
          clear hyes KST HGA HIL HG HN HNZ HA2 hlo8
          go_wp2_with fail
          refine (Keys_any VA.out.sat).mono ?_
          rintro e W9 ⟨kv, rfl, ko, d9⟩
          have VA9 := Lib.hid (VA.out.step d9); have VB9 := Lib.hid (VB.out.step d9); have B9 := Lib.hid (BW.out.trans (d9.mono BW.out.size)); have KO := Lib.hid ko
          obtain ⟨O9, c9, rfl⟩ := ko.slice
          rw [List.length_map] at KO ⊢
          clear ko d9 VA VB BW q0 q1 q2
          obtain ⟨n3, hn3⟩ : ∃ n3, l1.length = n3 := ⟨_, rfl⟩
          have HN3 := Lib.hid hn3
          rw [hn3] at KO hl40 ⊢
          clear hn3
          go_wp2_with fail
          go_loopg [14] n3 (fun gh s14 wx => ∃ j : Nat, j ≤ n3 ∧ gh = n3 - j ∧ s14 = .int .i64 (j : Int) ∧ Below W9.heap.size W9 wx)
          case atStart => exact ⟨0, Nat.zero_le _, rfl, rfl, Below.refl _ _⟩
          case round =>
            obtain ⟨jj, hj, hg, rfl, hb⟩ := hrel
            have HG := Lib.hid hg; have HB := Lib.hid hb; clear hg hb
            by_cases hlt : jj < n3
            · have hjj : jj < l1.length := by rw [HN3.out]; exact hlt
              have hjm : jj < (l1.map (·.1)).length := by rw [List.length_map]; exact hjj
              rcases KO.out.form with ⟨_, h0⟩ | ⟨g, cp9, hsv, hcp, _, hgl⟩
              · rw [h0] at hjm; simp at hjm
              injection hsv with e1 e2 e3
              clear e2
              subst e1; subst e3
              have k0 := KO.out.txt hjm
              have hmj : (l1.map (·.1))[jj] = l1[jj].1 := List.getElem_map ..
              rw [hmj] at k0
              have hget := HYES.out _ (List.getElem_mem hjj)
              have CG := Lib.hid (fun W (hb : Below W9.heap.size W9 W) => (get_any l1[jj].1 (VB9.out.step hb).sat).mono (fun e w' h => (And.intro h.1 (hb.trans (h.2.mono hb.size)) : e = .returned (.tuple #[.int .i64 ((get l1[jj].1 l1).getD 0), .bool (get l1[jj].1 l1).isSome]) ∧ Below W9.heap.size W9 w')))
              rw [hget, HN3.out] at CG
              have cg : ∀ W, Below W9.heap.size W9 W → Calls Try.prog 16 #[.agg #[.pointer ob, .int .i64 (n3 : Int), .int .i64 40], .string l1[jj].1] W (fun e w' => e = .returned (.tuple #[.int .i64 (l1[jj].1.size : Int), .bool true]) ∧ Below W9.heap.size W9 w') := CG.out
              have CG2 := Lib.hid cg
              have hprev : ∀ i, jj = i + 1 → W9.cell? ⟨g, i, none⟩ = some (.string (l1.getD i (⟨#[]⟩, 0)).1) ∧ lt (l1.getD i (⟨#[]⟩, 0)).1 l1[jj].1 = true := fun i hi => by
                have hil : i < l1.length := by omega
                have hgd : l1.getD i (⟨#[]⟩, 0) = l1[i] := by simp [List.getD, hil]
                rw [hgd]
                refine ⟨?_, ?_⟩
                · have := KO.out.txt (j := i) (by rw [List.length_map]; exact hil)
                  rw [List.getElem_map] at this
                  exact this
                · exact List.pairwise_iff_getElem.1 HRI.out i jj hil hjj (by omega)
              have HPR := Lib.hid hprev
              clear hprev cg CG hget hmj
              generalize l1[jj].1 = k at *
              have hs8 : ∀ W, Below W9.heap.size W9 W → (W.cell? ⟨p8, 0, none⟩ = some (.pointer ob) ∧ W.cell? ⟨p8, 1, none⟩ = some (.int .i64 (n3 : Int)) ∧ W.cell? ⟨p8, 2, none⟩ = some (.int .i64 40)) ∧ W.cell? ⟨g, jj, none⟩ = some (.string k) := fun W hb => by
                have h := (VB9.out.step hb).c
                rw [HN3.out] at h
                exact ⟨h, (hb.cell (p := ⟨g, jj, none⟩) hgl).trans k0⟩
              have HS8 := Lib.hid hs8
              have BR := Lib.hid HB.out.drew
              have b3 : (jj : Int) < (n3 : Int) := by omega
              have b4 : (0 : Int) ≤ (jj : Int) := by omega
              clear hs8 k0 hjm
              go_wp2_with fail
              go_region_held3 (fun w' => ((w'.cell? ⟨p8, 0, none⟩ = some (.pointer ob) ∧ w'.cell? ⟨p8, 1, none⟩ = some (.int .i64 (n3 : Int)) ∧ w'.cell? ⟨p8, 2, none⟩ = some (.int .i64 40)) ∧ w'.cell? ⟨g, jj, none⟩ = some (.string k)))
                (first | exact HS8.out _ BR.out | exact HS8.out _ m1 | fail)
                (first | (go_at_call 16; (with_reducible refine (CG2.out _ BR.out).mono ?_); rintro e y1 ⟨rfl, m1⟩) | fail)
              have k1 := (HS8.out _ m1).2
              by_cases hz : jj = 0
              · subst hz
                all_goals go_wp2_with fail
                go_quiet (fail)
                go_wp2_with fail
                go_roundg (n3 - (0 + 1))
                case measure => have := HG.out; omega
                case rel => exact ⟨0 + 1, by omega, rfl, rfl, below_drewN m1 _⟩
              · obtain ⟨i, hi⟩ : ∃ i, jj = i + 1 := ⟨jj - 1, by omega⟩
                obtain ⟨k2, hlt2⟩ := HPR.out i hi
                generalize (l1.getD i (⟨#[]⟩, 0)).1 = kp at *
                have k3 : y1.cell? ⟨g, i, none⟩ = some (.string kp) := (m1.cell (p := ⟨g, i, none⟩) hgl).trans k2
                have hbb : Op.bytesLess kp.toList k.toList = true := hlt2
                have a0 : decide (0 < jj) = true := decide_eq_true (by omega)
                have a1 : (0 : Int) < (jj : Int) := by omega
                have a2 : IntKind.i64.wrap ((jj : Int) - 1) = (i : Int) := by rw [IntWalk.i64_in _ (by omega)]; omega
                have a3 : (0 : Int) ≤ (i : Int) := by omega
                have a4 : (i : Int) < (n3 : Int) := by omega
                clear hlt2 k2 hi hz
                all_goals go_wp2_with fail
                go_quiet (fail)
                go_wp2_with fail
                go_roundg (n3 - (jj + 1))
                case measure => have := HG.out; omega
                case rel => exact ⟨jj + 1, by omega, rfl, rfl, below_drewN m1 _⟩
            · have va := VA9.out.step HB.out
              have vb := VB9.out.step HB.out
              obtain ⟨q0, q1, q2⟩ := va.c
              obtain ⟨t0, t1, t2⟩ := vb.c
              have CE := Lib.hid (eq_true_any va.sat vb.sat)
              have BB := Lib.hid (B9.out.trans (HB.out.mono B9.out.size))
              rw [HN3.out] at q1 t1 CE
              clear va vb
              go_wp2_with fail
              refine CE.out.mono ?_
              rintro e y2 ⟨rfl, n2⟩
              go_wp2_with fail
              go_ret
              exact ⟨rfl, BB.out.trans (n2.mono BB.out.size)⟩
        · have hpos : 0 < rest.length := List.length_pos_iff.2 hr0
          have hr40 : rest.length ≤ 40 := by have := HIL.out; have := HK40.out; omega
          rcases KST.out.own.form with ⟨_, h0⟩ | ⟨g, cp, rfl, hcp, hgl, hgl2⟩
          · exact absurd h0 hr0
          obtain ⟨R, hR⟩ : ∃ R, rest.length = R := ⟨_, rfl⟩
          have HR := Lib.hid hR
          rw [hR] at KST hpos hr40 hcp ⊢
          have hi40 : i < 40 := by have := HIL.out; have := HK40.out; omega
          have a1 : (0 : Int) < (R : Int) := by omega
          have a2 : ¬ (R : Int) = 0 := by omega
          have a3 : IntKind.u64.wrap (R : Int) = (R : Int) := IntWalk.u64_in _ (by omega)
          have a5 : (0 : Int) ≤ (i : Int) := by omega
          clear hR hr0
          go_upto_if 61 with fail
          go_cut [10] from 53 to 98 (fun s10 wx => (∃ a : Nat, a < R ∧ s10 = .int .i64 (a : Int)) ∧ wr = wx)
          case first =>
            by_cases hp : i < nz
            · obtain ⟨b, off, rfl, _, cz⟩ := (HA2.out.keep KST.out.bel) i (by rw [HNZ.out]; exact hp)
              generalize zs.getD i 0 = zz at *
              obtain ⟨a, ha, hae⟩ := at_of zz R hpos hr40
              have HAE := Lib.hid hae
              have a6 : (i : Int) < (nz : Int) := by omega
              clear hae
              go_wp2_with fail
              go_meet
              exact ⟨⟨a, ha, by rw [HAE.out]⟩, rfl⟩
            · have a6 : ¬ (i : Int) < (nz : Int) := by omega
              go_wp2_with fail
              go_meet
              exact ⟨⟨0, hpos, rfl⟩, rfl⟩
          case rest =>
          obtain ⟨⟨a, ha, rfl⟩, rfl⟩ := hcut
          have hal : a < rest.length := by rw [HR.out]; exact ha
          have ck := KST.out.own.txt hal
          have hS40 : S.length < 40 := by have h1 := KST.out.len; have h2 := HK40.out; rw [HR.out] at h1; omega
          have hok := KST.out.good.ok hS40 rest[a]
          have hgs := KST.out.good.step hS40 rest[a]
          have hca := cut_all hal KST.out.all
          have hcl := cut_len hal
          generalize rest[a] = k at *
          have HOK := Lib.hid hok; have HGS := Lib.hid hgs; have HCA := Lib.hid hca; have HCL := Lib.hid hcl
          have b3 : (a : Int) < (R : Int) := by omega
          have b4 : (0 : Int) ≤ (a : Int) := by omega
          clear hok hgs hca hcl
          go_upto_region 20 with fail
          obtain ⟨l7, hl7⟩ : ∃ l7, wput 40 k (k.size : Int) lb = l7 := ⟨_, rfl⟩
          have HL7 := Lib.hid hl7
          rw [hl7] at HGS
          clear hl7
          have pl8 := KST.out.b.at_.lt
          have HS := Lib.hid (fun W (hb : Below wr.heap.size wr W) => And.intro (KST.out.b.step hb).c ((hb.cell (p := ⟨g, a, none⟩) hgl2).trans ck))
          have BD := Lib.hid (Below.refl wr.heap.size wr).drew
          have BA := Lib.hid ((Below.refl wr.heap.size wr).alloc (Nat.le_refl _) (.cells #[.pointer none, .int .i64 0, .int .i64 0] 26)).drew
          have AA := Lib.hid ((At.new wr 26 #[.pointer none, .int .i64 0, .int .i64 0]).drew)
          have cw : ∀ W, Below wr.heap.size wr W → Calls Try.prog 9 #[.agg #[.pointer ob, .int .i64 (lb.length : Int), .int .i64 40], .string k, .int .i64 (k.size : Int)] W (fun e w' => ∃ v, e = .returned (.tuple #[v, .bool true]) ∧ SAt w' v l7 40 ∧ Below W.heap.size W w') := fun W hb => by
            have h := With_any k (k.size : Int) (KST.out.b.step hb).sat
            unfold WithPost at h
            rw [HOK.out, HL7.out] at h
            exact h
          have CW := Lib.hid cw; clear cw
          go_cut [11, 12] from 53 to 98 (fun s11 s12 wx => s12 = .bool true ∧ ∃ pc o7, s11 = ptr pc ∧ p8 < pc ∧ Var wx pc o7 l7 40 ∧ Below wr.heap.size wr wx)
          case first =>
            go_region_held3 (fun w' => ((w'.cell? ⟨p8, 0, none⟩ = some (.pointer ob) ∧ w'.cell? ⟨p8, 1, none⟩ = some (.int .i64 (lb.length : Int)) ∧ w'.cell? ⟨p8, 2, none⟩ = some (.int .i64 40)) ∧ w'.cell? ⟨g, a, none⟩ = some (.string k)))
              (first | exact HS.out _ BD.out | exact HS.out _ BA.out | exact HS.out _ m7 | exact HS.out _ (m7.alloc m7.size _) | exact HS.out _ M8.out | fail)
              (first
                | (go_at_call 9; (with_reducible refine (CW.out _ BD.out).mono ?_); rintro e w7 ⟨v7, rfl, s7, d7⟩; have m7 := BD.out.trans (d7.mono BD.out.size); obtain ⟨o7, rfl⟩ := s7.form; have V8 := Lib.hid (Var.new s7); have M8 := Lib.hid (m7.alloc m7.size (.cells #[.pointer o7, .int .i64 (l7.length : Int), .int .i64 ((40 : Nat) : Int)] 26)); have lc : p8 < w7.heap.size := Nat.lt_of_lt_of_le pl8 m7.size)
                | (go_at_call 9; (with_reducible refine (CW.out _ BA.out).mono ?_); rintro e w7 ⟨v7, rfl, s7, d7⟩; have m7 := BA.out.trans (d7.mono BA.out.size); obtain ⟨o7, rfl⟩ := s7.form; have a7 := AA.out.below d7 AA.out.lt; have d0 : w7.cell? ⟨wr.heap.size, 0, none⟩ = some (.pointer none) := (by rw [a7.cell]; rfl); have d1 : w7.cell? ⟨wr.heap.size, 1, none⟩ = some (.int .i64 0) := (by rw [a7.cell]; rfl); have d2 : w7.cell? ⟨wr.heap.size, 2, none⟩ = some (.int .i64 0) := (by rw [a7.cell]; rfl); have y0 := a7.frozen 0; have y1 := a7.frozen 1; have y2 := a7.frozen 2; have V8 := Lib.hid (Var.mk (p := wr.heap.size) (a7.store3 (x := .pointer o7) (y := .int .i64 (l7.length : Int)) (z := .int .i64 ((40 : Nat) : Int))) (s7.store a7 (by decide) (by decide))); have M8 := Lib.hid (Below.store (x := .pointer o7) (y := .int .i64 (l7.length : Int)) (z := .int .i64 ((40 : Nat) : Int)) m7 (Nat.le_refl _)); have lc : p8 < wr.heap.size := pl8)
                | fail)
            all_goals (go_wp2_with fail; go_meet; exact ⟨rfl, _, o7, rfl, lc, V8.out, M8.out⟩)
          case rest =>
          obtain ⟨rfl, pc, o7, rfl, hpc, hvc, hbc⟩ := hcut
          have st7 := KST.out.below hbc
          obtain ⟨q0, q1, q2⟩ := st7.b.c
          obtain ⟨t0, t1, t2⟩ := hvc.c
          have y0 := st7.b.at_.frozen 0; have y1 := st7.b.at_.frozen 1; have y2 := st7.b.at_.frozen 2
          have ne8 : ¬ p8 = pc := by omega
          have ne9 : ¬ pc = p8 := by omega
          have ne5 : p5 ≠ p8 := by omega
          have VA8 := Lib.hid (st7.a.far (x := .pointer o7) (y := .int .i64 (l7.length : Int)) (z := .int .i64 ((40 : Nat) : Int)) st7.b ne5)
          have VB8 := Lib.hid (st7.b.put hvc.sat)
          have OW8 := Lib.hid (st7.own.store (x := .pointer o7) (y := .int .i64 (l7.length : Int)) (z := .int .i64 ((40 : Nat) : Int)) st7.b (by decide))
          have BE8 := Lib.hid (Below.store (x := .pointer o7) (y := .int .i64 (l7.length : Int)) (z := .int .i64 ((40 : Nat) : Int)) st7.bel hlo8)
          have HLEN := Lib.hid st7.len
          clear st7 hvc hbc KST CW AA BA BD HS HOK ck
          go_upto_region 24 with fail
          obtain ⟨W8, hW8⟩ : ∃ W8, ((wc.setCell ⟨p8, 0, none⟩ (.pointer o7)).setCell ⟨p8, 1, none⟩ (.int .i64 (l7.length : Int))).setCell ⟨p8, 2, none⟩ (.int .i64 ((40 : Nat) : Int)) = W8 := ⟨_, rfl⟩
          have hW9 : ((wc.setCell ⟨p8, 0, none⟩ (.pointer o7)).setCell ⟨p8, 1, none⟩ (.int .i64 (l7.length : Int))).setCell ⟨p8, 2, none⟩ (.int .i64 40) = W8 := hW8
          rw [hW8] at VA8 VB8 OW8 BE8
          rw [hW9]
          clear hW8 hW9 q0 q1 q2 t0 t1 t2 y0 y1 y2 ne8 ne9
          obtain ⟨O1, c1, O2, n2, c2, v1, w1', v2, w2', r1, r2, hr1, hr2, ho2, hb2⟩ := cut_out (w := W8.drew) (B := w.heap.size) (at_ := a) (show Own eS W8.drew w.heap.size _ rest from OW8.out) hal (by rw [HR.out]; omega) BE8.out.size
          obtain ⟨a1, ha1⟩ : ∃ a1, a + 1 = a1 := ⟨_, rfl⟩
          rw [ha1] at r2 ho2
          have HA1 := Lib.hid ha1
          have HR1 := Lib.hid hr1; have HR2 := Lib.hid hr2; have HO2 := Lib.hid ho2; have HB2 := Lib.hid hb2
          have f9 : IntKind.i64.wrap ((a : Int) + 1) = (a1 : Int) := by rw [IntWalk.i64_in _ (by omega)]; omega
          clear hr1 hr2 ho2 hb2 ha1 hgl hgl2 hcp
          go_region_held3 (fun w' => True)
            (first | trivial)
            (first
              | (refine step_append_run (by rfl) (.tmp 89) (.tmp 92) 52 52 (by rfl) _ _ (by rfl) (by rfl) v1 w1' HR1.out ?_)
              | (refine step_append_run (by rfl) (.tmp 93) (.tmp 97) 52 52 (by rfl) _ _ (by rfl) (by rfl) v2 w2' HR2.out ?_)
              | fail)
          all_goals go_wp2_with fail
          have hrl : rest.length - 1 = (rest.take a ++ rest.drop a1).length := by rw [← HA1.out]; exact HCL.out.symm
          go_roundg (rest.length - 1)
          case measure => have h1 := HG.out; have h2 := HR.out; omega
          case rel =>
            have h2 := HR.out
            have hbd : Below W8.heap.size W8 w2' := ((Below.refl W8.heap.size W8).drew).trans (HB2.out.mono (Nat.le_refl _))
            refine ⟨i + 1, o7, l7, v2, rest.take a ++ rest.drop a1, S ++ [k], hrl, ?_, rfl, rfl, ⟨VA8.out.step hbd, VB8.out.step hbd, HO2.out, BE8.out.trans (hbd.mono BE8.out.size), HGS.out, ?_, ?_⟩⟩
            · have h3 := HIL.out; omega
            · rw [← HA1.out]; exact HCA.out
            · have h4 := HLEN.out
              rw [List.length_append, List.length_singleton, ← hrl]
              omega
end Go.Proofs.Ytdpgpdadgcogjaa
