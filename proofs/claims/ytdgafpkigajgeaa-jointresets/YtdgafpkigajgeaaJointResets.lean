/- The walk of JointResets: it returns true. -/
import Derived.Test.YtdgafpkigajgeaaJntE
namespace Go.Proofs.Ytdgafpkigajgeaa
open Go.RowKit Go.Lib Plain

set_option maxRecDepth 100000 in
set_option maxHeartbeats 1600000 in
theorem jointResets_walk (a b : ByteArray) (w : World) (ha : a.size ≤ maxLen) (hb : b.size ≤ maxLen) :
    Calls Try.prog 6 #[.string a, .string b] w fun e w' => e = .returned (.bool true) ∧ Below w.heap.size w w' := by
  by_cases g1 : 2048 < a.size
  · clear ha hb
    go_enter Try.func6, Try.ntmps6
    go_wp2_with (go_at_call 7; refine (awake_any _).mono ?_; rintro e w' ⟨rfl, hg⟩)
    go_ret
    exact ⟨rfl, hg⟩
  by_cases g2 : 2048 < b.size
  · clear ha hb
    go_enter Try.func6, Try.ntmps6
    go_wp2_with (go_at_call 7; refine (awake_any _).mono ?_; rintro e w' ⟨rfl, hg⟩)
    go_ret
    exact ⟨rfl, hg⟩
  clear ha hb
  have ca : ∀ (wx : World) (p : Nat), JAt wx p [] → Calls Try.prog 10 #[.pointer (some ⟨p, 0, none⟩), .string a] wx fun e w' => ∃ v, e = .returned (.tuple #[v, .bool (!jB a.data.toList)]) ∧ OwnS w' wx.heap.size v ((told a.data.toList).map textOf) ∧ JAt w' p a.data.toList ∧ Chg wx w' (fun k => k = p) := fun wx p h => jfeed_new h a (by omega)
  have cb : ∀ (wx : World) (p : Nat), JAt wx p [] → Calls Try.prog 10 #[.pointer (some ⟨p, 0, none⟩), .string b] wx fun e w' => ∃ v, e = .returned (.tuple #[v, .bool (!jB b.data.toList)]) ∧ OwnS w' wx.heap.size v ((told b.data.toList).map textOf) ∧ JAt w' p b.data.toList ∧ Chg wx w' (fun k => k = p) := fun wx p h => jfeed_new h b (by omega)
  have hnl : ((told b.data.toList).map textOf).length ≤ 1000000 := by
    have := cnt_le b.data.toList
    rw [List.length_map, told_length]
    rw [size_list] at this
    omega
  generalize a.data.toList = la at ca
  generalize b.data.toList = l at cb hnl
  have CA := Lib.hid ca; have CB := Lib.hid cb; have HNL := Lib.hid hnl; clear ca cb hnl
  go_enter Try.func6, Try.ntmps6
  go_wp2_with fail
  refine (awake_any _).mono ?_
  rintro e w0 ⟨rfl, hb0⟩
  have HB0 := Lib.hid hb0; clear hb0
  go_wp2_with fail
  refine (jnew_any _).mono ?_
  rintro e w1 ⟨rfl, hj1, hb1⟩
  have hc1 : Chg w w1 (fun k => w.heap.size ≤ k) := (Chg.ofBelow HB0.out _).trans (Chg.ofBelow hb1 (fun _ => False)) (fun _ _ h => h.elim)
  have hp0 := HB0.out.size
  generalize w0.heap.size = p at *
  have HJ1 := Lib.hid hj1; have HC1 := Lib.hid hc1; clear hj1 hc1 hb1 HB0
  go_wp2_with fail
  refine (CA.out _ _ HJ1.out).mono ?_
  rintro e w2 ⟨v2, rfl, ho2, hj2, hc2⟩
  have HJ2 := Lib.hid hj2; have HC2 := Lib.hid (HC1.out.trans hc2 (fun i _ h => by omega)); clear hj2 hc2 HJ1 HC1 ho2
  go_wp2_with fail
  refine (jreset_some HJ2.out).mono ?_
  rintro e w3 ⟨rfl, hj3, hc3⟩
  have HJ3 := Lib.hid hj3; have HC3 := Lib.hid (HC2.out.trans hc3 (fun i _ h => by omega)); clear hj3 hc3 HJ2 HC2
  go_wp2_with fail
  refine (jbad_some HJ3.out).mono ?_
  rintro e w4 ⟨rfl, rfl⟩
  rw [jB_nil]
  go_wp2_with fail
  refine (jleft_some HJ3.out).mono ?_
  rintro e w4 ⟨rfl, rfl⟩
  rw [jW_nil]
  go_wp2_with fail
  refine (jseen_some HJ3.out).mono ?_
  rintro e w4 ⟨rfl, rfl⟩
  rw [cnt_nil]
  go_wp2_with fail
  refine (jnew_any _).mono ?_
  rintro e w5 ⟨rfl, hj5, hb5⟩
  have hp5 : JAt w5 p [] := At.below HJ3.out hb5 HJ3.out.lt
  have hc5 := HC3.out.trans (Chg.ofBelow hb5 (fun _ => False)) (fun _ _ h => h.elim)
  have hpq : p < w3.heap.size := HJ3.out.lt
  have hq0 := HC3.out.size
  generalize w3.heap.size = q at *
  have HJ5 := Lib.hid hj5; have HP5 := Lib.hid hp5; have HC5 := Lib.hid hc5; clear hj5 hp5 hc5 hb5 HJ3 HC3
  go_wp2_with fail
  refine (CB.out _ _ HP5.out).mono ?_
  rintro e w6 ⟨v6, rfl, ho6, hp6, hc6⟩
  have hj6 : JAt w6 q [] := At.chg HJ5.out hc6 (by omega)
  have hs6 := hc6.size
  have HJ6 := Lib.hid hj6; have HP6 := Lib.hid hp6; have HO6 := Lib.hid ho6; have HC6 := Lib.hid (HC5.out.trans hc6 (fun i _ h => by omega)); clear hj6 hp6 hc6 ho6 HJ5 HP5 HC5
  go_wp2_with fail
  refine (CB.out _ _ HJ6.out).mono ?_
  rintro e w7 ⟨v7, rfl, ho7, hj7, hc7⟩
  have hp7 : JAt w7 p l := At.chg HP6.out hc7 (by omega)
  have ho67 := HO6.out.fed HJ6.out hc7
  have cs := same_any ho67.sl ho7.sl HNL.out
  have hc8 := HC6.out.trans hc7 (fun i _ h => by omega)
  have CS := Lib.hid cs; have HJ7 := Lib.hid hj7; have HP7 := Lib.hid hp7; have HC8 := Lib.hid hc8
  clear cs hj7 hp7 hc8 hc7 ho67 ho7 HJ6 HP6 HO6 HC6 CA CB HNL
  go_wp2_with fail
  refine CS.out.mono ?_
  rintro e w8 ⟨rfl, hb8⟩
  have hj8 : JAt w8 q l := At.below HJ7.out hb8 HJ7.out.lt
  have hp8 : JAt w8 p l := At.below HP7.out hb8 HP7.out.lt
  have HC9 := Lib.hid (HC8.out.trans (Chg.ofBelow hb8 (fun _ => False)) (fun _ _ h => h.elim))
  have cb8 := jbad_some hj8
  have cb9 := jbad_some hp8
  have cl8 := jleft_some hj8
  have cl9 := jleft_some hp8
  have cs8 := jseen_some hj8
  have cs9 := jseen_some hp8
  clear hj8 hp8 HJ7 HP7 CS HC8 hb8
  generalize (jW l).length = n1 at *
  generalize cnt l = n2 at *
  generalize jB l = q1 at *
  have CB8 := Lib.hid cb8; have CB9 := Lib.hid cb9; have CL8 := Lib.hid cl8; have CL9 := Lib.hid cl9; have CS8 := Lib.hid cs8; have CS9 := Lib.hid cs9
  clear cb8 cb9 cl8 cl9 cs8 cs9
  go_wp2_with fail
  refine CL9.out.mono ?_
  rintro e w9 ⟨rfl, rfl⟩
  go_wp2_with fail
  refine CL8.out.mono ?_
  rintro e w9 ⟨rfl, rfl⟩
  go_wp2_with fail
  refine CB9.out.mono ?_
  rintro e w9 ⟨rfl, rfl⟩
  go_wp2_with fail
  refine CB8.out.mono ?_
  rintro e w9 ⟨rfl, rfl⟩
  go_wp2_with fail
  refine CS9.out.mono ?_
  rintro e w9 ⟨rfl, rfl⟩
  go_wp2_with fail
  refine CS8.out.mono ?_
  rintro e w9 ⟨rfl, rfl⟩
  go_wp2_with fail
  go_ret
  exact ⟨rfl, HC9.out.toBelow (Nat.le_refl _) (fun k hk hkp => by omega)⟩
end Go.Proofs.Ytdgafpkigajgeaa
