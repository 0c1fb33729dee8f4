/- The contract of (*joint.Joint).Feed. -/
import Derived.Test.YtdgafpkigajgeaaJntA
import Derived.BigQuiet
namespace Go.Proofs.Ytdgafpkigajgeaa
open Go.RowKit Go.Lib Plain

/-- what Feed answers, and how the Joint is behind it -/
def FedTo (w : World) (p : Nat) (l m : List UInt8) (e : Ending) (w' : World) : Prop :=
  ∃ v, e = .returned (.tuple #[v, .bool (!jB (l ++ m))]) ∧ OwnS w' w.heap.size v ((news l m).map textOf) ∧ JAt w' p (l ++ m) ∧ Chg w w' (fun k => k = p)
theorem JAt.eq {w : World} {p : Nat} {l m : List UInt8} (h : JAt w p l) (h1 : jW m = jW l) (h2 : cnt m = cnt l) (h3 : jB m = jB l) : JAt w p m := by
  unfold JAt at h ⊢; rw [h1, h2, h3]; exact h
theorem jnSt (l : List UInt8) : nSt (jR l) = 2 ∨ nSt (jR l) = 3 := by
  have h : nSt (jR l) ≠ 1 := (cuts l).stop
  have := nSt_range (jR l)
  omega

theorem fed_end {w w1 : World} {p : Nat} {l lm rr : List UInt8} {n : Nat} {v : Value} {b : Bool} {ts : List ByteArray} (ho : OwnS w1 w.heap.size v ts) (ja : JAt w1 p l) (hc : Chg w w1 (fun k => k = p))
    (q1 : cnt lm = cnt l + n) (q2 : jB lm = b) (q3 : jW lm = rr) (nq : Nat) (w2 : World)
    (e : w2 = (((w1.setCell ⟨p, 1, none⟩ (.int .i64 ((cnt l : Int) + (n : Int)))).setCell ⟨p, 2, none⟩ (.bool b)).setCell ⟨p, 0, none⟩ (.string (textOf rr))).drewN nq) :
    OwnS w2 w.heap.size v ts ∧ JAt w2 p lm ∧ Chg w w2 (fun k => k = p) := by
  have hcg : Chg w1 w2 (fun k => k = p) := by
    have := (((Chg.refl w1 (fun k => k = p)).set (p := ⟨p, 1, none⟩) (fun _ => rfl) (.int .i64 ((cnt l : Int) + (n : Int)))).set (p := ⟨p, 2, none⟩) (fun _ => rfl) (.bool b)).set (p := ⟨p, 0, none⟩) (fun _ => rfl) (.string (textOf rr))
    rw [e]
    exact ⟨this.os, this.tape, this.output, this.size, this.block⟩
  have hj : JAt w2 p lm := by
    have := at3_set0 (at3_set2 (at3_set1 ja (.int .i64 ((cnt l : Int) + (n : Int)))) (.bool b)) (.string (textOf rr))
    rw [e]
    unfold JAt
    rw [q1, q2, q3, Int.natCast_add]
    exact this
  refine ⟨own_chg ho hcg (fun k hk hp => ?_), hj, hc.trans hcg (fun _ _ h => h)⟩
  subst hp
  exact own_ne ho ja (by decide) hk
theorem ret_vb {v : Value} {a b : Bool} (h : a = b) : Ending.returned (.tuple #[v, .bool a]) = .returned (.tuple #[v, .bool b]) := by rw [h]

set_option maxRecDepth 100000 in
set_option maxHeartbeats 1600000 in
theorem jfeed_any {w : World} {p : Nat} {l : List UInt8} (h : JAt w p l) (c : ByteArray) (hz : l.length + c.size ≤ 900000) :
    Calls Try.prog 10 #[.pointer (some ⟨p, 0, none⟩), .string c] w (FedTo w p l c.data.toList) := by
  have cb := jbad_some h
  cases hb : jB l
  · rw [hb] at cb
    have c0 := h.c0
    rw [jW_ok hb] at c0
    have e1 : textOf (jR l) ++ c = textOf (jR l ++ c.data.toList) := by
      rw [← textOf_append, textOf_of]
    have hjr := jR_le l
    have hcl := cnt_le l
    have hcl2 := cnt_le (jR l ++ c.data.toList)
    rw [List.length_append, size_list] at hcl2
    have cc := fcut_any (textOf (jR l ++ c.data.toList)) w (by rw [textOf_size, List.length_append, size_list]; omega)
    rw [textOf_data] at cc
    have q1 := cnt_app l c.data.toList
    have q2 := jB_app l c.data.toList
    have q3 := jW_app l c.data.toList
    have q4 : news l c.data.toList = told (jR l ++ c.data.toList) := rfl
    have q5 := jnSt (jR l ++ c.data.toList)
    have hz1 : (textOf (jR l)).size ≤ 900000 := by rw [textOf_size]; omega
    have hz2 : c.size ≤ 900000 := by omega
    have hz3 : cnt l ≤ 900000 := by omega
    have hz4 : cnt (jR l ++ c.data.toList) ≤ 900000 := by omega
    unfold FedTo
    rw [q4]
    generalize hm : l ++ c.data.toList = lm at q1 q2 q3 ⊢
    have CB := Lib.hid cb; have CC := Lib.hid cc; have H := Lib.hid h; have HM := Lib.hid hm; have Q1 := Lib.hid q1; have Q2 := Lib.hid q2; have Q3 := Lib.hid q3; have Q5 := Lib.hid q5
    clear cb cc h hm q1 q2 q3 q4 q5 hz hjr hcl hcl2 hb
    generalize jR l ++ c.data.toList = r at *
    generalize textOf (jR l) = t0 at *
    go_enter Try.func10, Try.ntmps10
    go_wp2_with fail
    refine CB.out.mono ?_
    rintro e w0 ⟨rfl, rfl⟩
    go_wp2_with fail
    refine CC.out.mono ?_
    rintro e w1 ⟨n, v, rfl, hc, ho, hb1⟩
    obtain rfl := hc.eq (cuts r)
    have ja : JAt w1 p l := At.below H.out hb1 H.out.lt
    have c1 := ja.c1; have c2 := ja.c2; have d0 := ja.c0
    have f0 := At.frozen ja 0; have f1 := At.frozen ja 1; have f2 := At.frozen ja 2
    obtain ⟨O, cap, rfl, _⟩ := ho.read
    have hln : ((bods r (cnt r)).map textOf).length = cnt r := by rw [List.length_map, bods_length]
    rw [hln]
    have hb2 : jB r = decide (nSt (jR r) = 3) := rfl
    have hw2 : jW r = if jB r = true then [] else jR r := rfl
    have hrr : rst r (cnt r) = jR r := rfl
    have hbb : bods r (cnt r) = told r := rfl
    rw [hrr]
    rw [hln, hbb] at ho
    have HO := Lib.hid ho; have HB1 := Lib.hid hb1; have JA := Lib.hid ja
    have hcc : Chg w w1 (fun k => k = p) := Chg.ofBelow hb1 _
    have HCC := Lib.hid hcc
    clear ho hb1 ja hc hln hrr hbb CB CC c0 e1 hcc
    rcases Q5.out with h5 | h5
    · have hbr : jB r = false := by rw [hb2, h5]; rfl
      have hwr : jW r = jR r := jW_ok hbr
      rw [h5]
      rw [hbr] at Q2; rw [hwr] at Q3
      have hs2 : decide ((2 : Int) = 3) = false := by decide
      clear hb2 hw2 h5 Q5 hbr hwr
      generalize jR r = rr at *
      go_wp2_with fail
      go_quiet (fail)
      go_wp2_with fail
      go_ret2
      exact ⟨_, ret_vb (by rw [Q2.out]; rfl), fed_end HO.out JA.out HCC.out Q1.out Q2.out Q3.out nq _ rfl⟩
    · have hbr : jB r = true := by rw [hb2, h5]; rfl
      have hwr : jW r = [] := jW_bad hbr
      rw [h5]
      rw [hbr] at Q2; rw [hwr] at Q3
      clear hb2 hw2 h5 Q5 hbr hwr
      generalize jR r = rr at *
      go_wp2_with fail
      go_quiet (fail)
      go_wp2_with fail
      go_ret2
      exact ⟨_, ret_vb (by rw [Q2.out]; rfl), fed_end HO.out JA.out HCC.out Q1.out Q2.out Q3.out nq _ rfl⟩
  · rw [hb] at cb
    obtain ⟨h1, h2, h3, h4⟩ := bad_stays c.data.toList hb
    have h5 : JAt w p (l ++ c.data.toList) := h.eq (by rw [h4, jW_bad hb]) h2 (by rw [h1, hb])
    unfold FedTo
    rw [h3, h1]
    have CB := Lib.hid cb; have H5 := Lib.hid h5; clear cb h5 h hz
    go_enter Try.func10, Try.ntmps10
    go_wp2_with fail
    refine CB.out.mono ?_
    rintro e w0 ⟨rfl, rfl⟩
    go_wp2_with fail
    go_ret2
    exact ⟨_, rfl, World.ownsRow_nil _ _ _ _, H5.out, Chg.refl _ _⟩
set_option maxHeartbeats 400000 in
theorem jfeed_nil (c : ByteArray) (w : World) : Calls Try.prog 10 #[.pointer none, .string c] w fun e w' => e = .returned (.tuple #[.slice none 0 0, .bool false]) ∧ w = w' := by
  go_enter Try.func10, Try.ntmps10
  go_wp2_with fail
  refine (jbad_nil w).mono ?_
  rintro e w0 ⟨rfl, rfl⟩
  go_wp2_with fail
  go_ret2
  exact ⟨rfl, rfl⟩
end Go.Proofs.Ytdgafpkigajgeaa
