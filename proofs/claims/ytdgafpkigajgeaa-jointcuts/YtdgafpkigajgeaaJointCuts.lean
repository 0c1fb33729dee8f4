/- The walk of JointCuts: it returns true. -/
import Derived.Test.YtdgafpkigajgeaaJntE
import Derived.Test.YtdgafpkigajgeaaJntArgs
import Derived.Lib.AppendZeros
namespace Go.Proofs.Ytdgafpkigajgeaa
open Go.RowKit Go.Lib Plain

theorem take_text (r : List UInt8) (k : Nat) : (textOf r).extract 0 k = textOf (r.take k) := by
  apply ByteArray.ext; apply Array.ext'
  rw [ByteArray.data_extract, Array.toList_extract, List.extract_eq_take_drop, textOf_data, textOf_data]
  simp
/-- the state of the loop: one Joint has all bytes, the other one the first k of them; what was told so far is 'got' -/
structure CSt (w wx : World) (B p q : Nat) (v : Value) (L : List UInt8) (k : Nat) (got : Value) : Prop where
  one : JAt wx p L
  want : OwnS wx w.heap.size v ((told L).map textOf)
  old : ∀ g, v.ownBlock = some g → g < B
  two : JAt wx q (L.take k)
  own : OwnS wx B got ((told (L.take k)).map textOf)
  chg : Chg w wx (fun i => w.heap.size ≤ i)
  ne : p ≠ q
  lo : w.heap.size ≤ p ∧ w.heap.size ≤ q ∧ w.heap.size ≤ B
  base : B ≤ wx.heap.size
theorem ownS_mono {w : World} {B B' : Nat} {v : Value} {ts : List ByteArray} (h : OwnS w B v ts) (hB : B' ≤ B) : OwnS w B' v ts := by
  refine ⟨h.1, ?_⟩
  rcases h.2 with hn | ⟨g, cap, cur, hv, hb, rest⟩
  · exact .inl hn
  · exact .inr ⟨g, cap, cur, hv, by omega, rest⟩
theorem cut_place (z : Int) (D : Nat) (hD : D ≤ 1000000) : ∃ n : Nat, n ≤ D ∧ wrap64 ((IntKind.u64.wrap z).tmod ((D : Int) + 1)) = (n : Int) := by
  have h0 := wrap_u64_nonneg z
  have e : (IntKind.u64.wrap z).tmod ((D : Int) + 1) = (IntKind.u64.wrap z) % ((D : Int) + 1) := Int.tmod_eq_emod_of_nonneg h0
  have h1 := Int.emod_nonneg (IntKind.u64.wrap z) (show ((D : Int) + 1) ≠ 0 by omega)
  have h2 := Int.emod_lt_of_pos (IntKind.u64.wrap z) (show (0 : Int) < (D : Int) + 1 by omega)
  refine ⟨((IntKind.u64.wrap z) % ((D : Int) + 1)).toNat, by omega, ?_⟩
  rw [e]
  unfold wrap64
  omega
theorem told_many (l : List UInt8) : ((told l).map textOf).length ≤ l.length := by rw [List.length_map, told_length]; exact cnt_le l
theorem CSt.step {w wx w1 : World} {B p q : Nat} {v : Value} {L : List UInt8} {k n : Nat} {got u : Value} (h : CSt w wx B p q v L k got)
    (ho : OwnS w1 wx.heap.size u ((news (L.take k) ((L.drop k).take n)).map textOf)) (hj : JAt w1 q (L.take k ++ (L.drop k).take n)) (hc : Chg wx w1 (fun i => i = q)) (hL : L.length ≤ 2048) :
    ∃ v' w2, (Builtin.append_ #[22, 22] 22 #[got, u]).run Try.prog w1 = .ok v' w2 ∧ CSt w w2 B p q v L (k + n) v' := by
  have own1 : OwnS w1 B got _ := h.own.fed h.two hc
  have want1 : OwnS w1 w.heap.size v _ := h.want.fed h.two hc
  have one1 : JAt w1 p L := At.chg h.one hc h.ne
  have e1 : L.take (k + n) = L.take k ++ (L.drop k).take n := List.take_add
  have e2 : (told (L.take (k + n))).map textOf = (told (L.take k)).map textOf ++ (news (L.take k) ((L.drop k).take n)).map textOf := by rw [e1, told_app, List.map_append]
  have hlen : ((told (L.take k)).map textOf).length + ((news (L.take k) ((L.drop k).take n)).map textOf).length ≤ 1000000 := by
    rw [← List.length_append, ← e2]
    have h1 := told_many (L.take (k + n))
    have h2 : (L.take (k + n)).length ≤ L.length := by rw [List.length_take]; omega
    omega
  have hs := hc.size
  obtain ⟨v', w2, hr, ho2, hg⟩ := append_strs 22 own1 ho.src hlen (Nat.le_trans h.base hs)
  have hne : ∀ g t cs, At w1 g t cs → (9 : TypeId) ≠ t → At w2 g t cs := fun g t cs ha ht => At.chg ha (Chg.grown hg) (fun e => own_ne own1 ha ht e)
  refine ⟨v', w2, hr, hne _ _ _ one1 (by decide), ?_, h.old, by rw [e1]; exact hne _ _ _ hj (by decide), by rw [e2]; exact ho2, ?_, h.ne, h.lo, Nat.le_trans h.base (Nat.le_trans hs hg.size)⟩
  · refine own_chg want1 (Chg.grown hg) (fun g hgv hgg => ?_)
    have a1 := h.old g hgv
    have a2 := (own1.lt g hgg).1
    omega
  · have c1 := h.chg.trans hc (fun i _ e => by have := h.lo.2.1; omega)
    refine c1.trans (Chg.grown hg) (fun i _ e => ?_)
    have a2 := (own1.lt i e).1
    have := h.lo.2.2
    omega
theorem CSt.below {w wx w1 : World} {B p q : Nat} {v : Value} {L : List UInt8} {k : Nat} {got : Value} (h : CSt w wx B p q v L k got) (hb : Below wx.heap.size wx w1) : CSt w w1 B p q v L k got :=
  ⟨At.below h.one hb h.one.lt, h.want.below hb, h.old, At.below h.two hb h.two.lt, h.own.below hb, h.chg.trans (Chg.ofBelow hb (fun _ => False)) (fun _ _ e => e.elim), h.ne, h.lo, Nat.le_trans h.base hb.size⟩

set_option maxRecDepth 100000 in
set_option maxHeartbeats 1600000 in
theorem jointCuts_walk (s : ByteArray) (A : Option Addr) (cap : Nat) (zs : List Int) (w : World) (hs : s.size ≤ maxLen) (hzi : ∀ y ∈ zs, inI64 y) (hA : IntsAt w w.heap.size A zs) (hl : zs.length ≤ maxLen) :
    Calls Try.prog 4 #[.string s, .slice A zs.length cap] w fun e w' => e = .returned (.bool true) ∧ Below w.heap.size w w' := by
  unfold maxLen at hs hl
  by_cases g1 : 2048 < s.size
  · clear hzi hA
    go_enter Try.func4, Try.ntmps4
    go_wp2_with (go_at_call 7; refine (awake_any _).mono ?_; rintro e w' ⟨rfl, hg⟩)
    go_ret
    exact ⟨rfl, hg⟩
  by_cases g2 : 40 < zs.length
  · clear hzi hA
    go_enter Try.func4, Try.ntmps4
    go_wp2_with (go_at_call 7; refine (awake_any _).mono ?_; rintro e w' ⟨rfl, hg⟩)
    go_ret
    exact ⟨rfl, hg⟩
  have cw : ∀ (wx : World) (p : Nat), JAt wx p [] → Calls Try.prog 10 #[.pointer (some ⟨p, 0, none⟩), .string s] wx fun e w' => ∃ v, e = .returned (.tuple #[v, .bool (!jB s.data.toList)]) ∧ OwnS w' wx.heap.size v ((told s.data.toList).map textOf) ∧ JAt w' p s.data.toList ∧ Chg wx w' (fun k => k = p) := fun wx p h => jfeed_new h s (by omega)
  have es := textOf_of s
  have hL : s.data.toList.length ≤ 2048 := by rw [size_list]; omega
  generalize s.data.toList = L at cw es hL
  have CW := Lib.hid cw; have HL := Lib.hid hL; have HZ := Lib.hid hzi; have HA := Lib.hid hA; have ES := Lib.hid es; clear cw hL hzi hA es hs hl
  go_enter Try.func4, Try.ntmps4
  go_wp2_with fail
  refine (awake_any _).mono ?_
  rintro e w0 ⟨rfl, hb0⟩
  have HB0 := Lib.hid hb0; clear hb0
  go_wp2_with fail
  refine (jnew_any _).mono ?_
  rintro e w1 ⟨rfl, hj1, hb1⟩
  have hc1 : Chg w w1 (fun k => w.heap.size ≤ k) := (Chg.ofBelow HB0.out _).trans (Chg.ofBelow hb1 (fun _ => False)) (fun _ _ h => h.elim)
  have hp0 := HB0.out.size
  generalize w0.heap.size = p at *
  have HJ1 := Lib.hid hj1; have HC1 := Lib.hid hc1; clear hj1 hc1 hb1 HB0
  go_wp2_with fail
  refine (CW.out _ _ HJ1.out).mono ?_
  rintro e w2 ⟨v, rfl, ho2, hj2, hc2⟩
  have ho2 : OwnS w2 w.heap.size v ((told L).map textOf) := ownS_mono ho2 HC1.out.size
  have HJ2 := Lib.hid hj2; have HO2 := Lib.hid ho2; have HC2 := Lib.hid (HC1.out.trans hc2 (fun i _ h => by omega)); clear hj2 hc2 HJ1 HC1 ho2 CW
  go_wp2_with fail
  refine (jnew_any _).mono ?_
  rintro e w3 ⟨rfl, hj3, hb3⟩
  have hp3 : JAt w3 p L := At.below HJ2.out hb3 HJ2.out.lt
  have ho3 := HO2.out.below hb3
  have hc3 := HC2.out.trans (Chg.ofBelow hb3 (fun _ => False)) (fun _ _ h => h.elim)
  have hpq : p < w2.heap.size := HJ2.out.lt
  have hq0 := HC2.out.size
  generalize w2.heap.size = q at *
  have hst : CSt w (w3.alloc (.cells #[] 9)) w3.heap.size p q v L 0 (.slice (some ⟨w3.heap.size, 0, none⟩) 0 0) :=
    ⟨At.alloc hp3 _, World.ownsRow.alloc ho3 _, fun g hg => (ho3.lt g hg).2, At.alloc hj3 _, World.ownsRow_lit w3 #[] 0 (Nat.le_refl _) (by decide) rfl, hc3.alloc _, by omega, ⟨hp0, hq0, hc3.size⟩, by simp⟩
  have HST := Lib.hid hst
  clear hj3 hb3 hp3 ho3 hc3 HJ2 HO2 HC2 hst
  go_wp2_with fail
  generalize w3.heap.size = B at HST
  go_loopg [9, 10, 11] zs.length (fun g s9 s10 s11 wx => ∃ (j k : Nat) (got : Value), j ≤ zs.length ∧ g = zs.length - j ∧ s11 = .int .i64 (j : Int) ∧ k ≤ L.length ∧ s10 = .string (textOf (L.drop k)) ∧ got = s9 ∧ CSt w wx B p q v L k got)
  case atStart => exact ⟨0, 0, _, Nat.zero_le _, rfl, rfl, Nat.zero_le _, by rw [List.drop_zero, ES.out], rfl, HST.out⟩
  case round =>
    obtain ⟨j, k, got, hj, hg, rfl, hk, rfl, rfl, hst⟩ := hrel
    have HG := Lib.hid hg; have KST := Lib.hid hst; clear hg hst HST
    have hL := HL.out
    have hz2 : (textOf (L.drop k)).size = L.length - k := by rw [textOf_size, List.length_drop]
    by_cases hlt : j < zs.length
    · have hbw := KST.out.chg.toBelow (Nat.le_refl _) (fun i hi e => by omega)
      obtain ⟨b1, o1, rfl, _, hc1⟩ := (HA.out.keep hbw) j hlt
      have hzj : inI64 (zs.getD j 0) := HZ.out _ (by simp [hlt])
      generalize zs.getD j 0 = z at hc1 hzj
      have b3 : (j : Int) < (zs.length : Int) := by omega
      have b4 : (0 : Int) ≤ (j : Int) := by omega
      clear hbw
      obtain ⟨n, hnD, hne⟩ := cut_place z (L.length - k) (by omega)
      have hx1 := take_text (L.drop k) n
      have hx2 := drop_text (L.drop k) n
      rw [List.drop_drop, hz2] at hx2
      have cf : Calls Try.prog 10 #[.pointer (some ⟨q, 0, none⟩), .string (textOf ((L.drop k).take n))] wr (FedTo wr q (L.take k) ((L.drop k).take n)) := by
        have := jfeed_any KST.out.two (textOf ((L.drop k).take n)) (by rw [textOf_size, List.length_take, List.length_take]; omega)
        rw [textOf_data] at this
        exact this
      generalize textOf (L.drop k) = t10 at hz2 hx1 hx2 ⊢
      generalize textOf ((L.drop k).take n) = tN at hx1 cf
      have hkn : k + n ≤ L.length := by omega
      have hD2 : L.length - k ≤ 2048 := by omega
      have hD3 : ¬ ((L.length - k : Nat) : Int) + 1 = 0 := by omega
      generalize hD : L.length - k = D at hz2 hx2 hnD hne hD2 hD3
      have HX2 := Lib.hid hx2; have CF := Lib.hid cf
      clear cf hD
      go_wp2_with fail
      refine CF.out.mono ?_
      rintro e w4 ⟨u, rfl, ho4, hj4, hc4⟩
      obtain ⟨v', w5, hr, hst5⟩ := KST.out.step ho4 hj4 hc4 hL
      have HR := Lib.hid hr; have KST5 := Lib.hid hst5; clear hr hst5 ho4 hj4 hc4
      go_wp2_with (at_builtin; (refine Lib.wpList_append_run _ rfl (.tmp 62) (.tmp 63) 22 22 rfl _ _ rfl rfl v' w5 HR.out ?_))
      go_roundg (zs.length - (j + 1))
      case measure => have := HG.out; omega
      case rel => exact ⟨j + 1, k + n, _, by omega, rfl, by go_num, hkn, by rw [← HX2.out], rfl, KST5.out⟩
    · have cf : Calls Try.prog 10 #[.pointer (some ⟨q, 0, none⟩), .string (textOf (L.drop k))] wr (FedTo wr q (L.take k) ((L.drop k).take (L.length - k))) := by
        have := jfeed_any KST.out.two (textOf (L.drop k)) (by rw [textOf_size, List.length_take, List.length_drop]; omega)
        rw [textOf_data] at this
        rw [List.take_of_length_le (l := L.drop k) (by rw [List.length_drop]; omega)]
        exact this
      generalize textOf (L.drop k) = t10 at hz2 cf ⊢
      have CF := Lib.hid cf
      clear cf
      go_wp2_with fail
      refine CF.out.mono ?_
      rintro e w4 ⟨u, rfl, ho4, hj4, hc4⟩
      obtain ⟨v', w5, hr, hst5⟩ := KST.out.step ho4 hj4 hc4 hL
      have hke : k + (L.length - k) = L.length := by omega
      rw [hke] at hst5
      have HR := Lib.hid hr; have KST5 := Lib.hid hst5; clear hr hst5 ho4 hj4 hc4 KST CF hke
      go_wp2_with (at_builtin; (refine Lib.wpList_append_run _ rfl (.tmp 74) (.tmp 75) 22 22 rfl _ _ rfl rfl v' w5 HR.out ?_))
      have ho5 := KST5.out.own
      have hj5 := KST5.out.two
      rw [List.take_of_length_le (Nat.le_refl _)] at ho5 hj5
      have cs := same_any ho5.sl KST5.out.want.sl (by have := told_many L; omega)
      refine cs.mono ?_
      rintro e w6 ⟨rfl, hb6⟩
      have hj6 : JAt w6 q L := At.below hj5 hb6 hj5.lt
      have hp6 : JAt w6 p L := At.below KST5.out.one hb6 KST5.out.one.lt
      have HC9 := Lib.hid (KST5.out.chg.trans (Chg.ofBelow hb6 (fun _ => False)) (fun _ _ h => h.elim))
      have cb8 := jbad_some hj6
      have cl8 := jleft_some hj6
      have cl9 := jleft_some hp6
      have cs8 := jseen_some hj6
      have cs9 := jseen_some hp6
      clear hj6 hp6 hj5 ho5 cs KST5 hb6 HR
      generalize (jW L).length = n1 at *
      generalize cnt L = n2 at *
      generalize jB L = q1 at *
      have CB8 := Lib.hid cb8; have CL8 := Lib.hid cl8; have CL9 := Lib.hid cl9; have CS8 := Lib.hid cs8; have CS9 := Lib.hid cs9
      clear cb8 cl8 cl9 cs8 cs9
      go_wp2_with fail
      refine CB8.out.mono ?_
      rintro e w9 ⟨rfl, rfl⟩
      go_wp2_with fail
      refine CL8.out.mono ?_
      rintro e w9 ⟨rfl, rfl⟩
      go_wp2_with fail
      refine CL9.out.mono ?_
      rintro e w9 ⟨rfl, rfl⟩
      go_wp2_with fail
      refine CS8.out.mono ?_
      rintro e w9 ⟨rfl, rfl⟩
      go_wp2_with fail
      refine CS9.out.mono ?_
      rintro e w9 ⟨rfl, rfl⟩
      go_wp2_with fail
      go_ret
      exact ⟨rfl, HC9.out.toBelow (Nat.le_refl _) (fun k hk hkp => by omega)⟩
end Go.Proofs.Ytdgafpkigajgeaa
