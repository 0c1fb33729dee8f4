/- The walk of FrameExact: it returns true. -/
import Derived.Test.YtakooppceifamaaFrmD
import Derived.Test.YtakooppceifamaaFrmE
namespace Go.Proofs.Ytakooppceifamaa
open Go.RowKit Go.Lib Plain

set_option maxRecDepth 100000 in
set_option maxHeartbeats 1600000 in
theorem exact_walk (b s : ByteArray) (w : World) (hb : b.size ≤ maxLen) (hs : s.size ≤ maxLen) :
    Calls Try.prog 3 #[.string b, .string s] w fun e w' => e = .returned (.bool true) ∧ Below w.heap.size w w' := by
  by_cases g1 : 4096 < b.size
  · clear hb hs
    go_enter Try.func3, Try.ntmps3
    go_wp2_with (go_at_call 9; refine (awake_any _).mono ?_; rintro e w' ⟨rfl, hg⟩)
    go_ret
    exact ⟨rfl, hg⟩
  by_cases g2 : 4096 < s.size
  · clear hb hs
    go_enter Try.func3, Try.ntmps3
    go_wp2_with (go_at_call 9; refine (awake_any _).mono ?_; rintro e w' ⟨rfl, hg⟩)
    go_ret
    exact ⟨rfl, hg⟩
  have c1 := fun wx => fof_any b wx hb
  have c2 := fun wx => rof_any b wx hb
  have hs48 : s.size ≤ 281474976710656 := by omega
  have c3 := fun wx => fnext_any s wx hs48
  have c4 := fun wx => rnext_any s wx hs48
  have c5 := fun wx => fbody_any s wx hs48
  have hE : okB b.data.toList = true → ofE b.data.toList = 0 := ofE_yes
  have hE' : okB b.data.toList = false → ofE b.data.toList = 1 := ofE_no
  have hbd := body_cases s.data.toList
  rw [size_list] at hbd
  unfold nxtV at c3 c4
  clear hb hs hs48
  generalize ofE b.data.toList = E at c1 hE hE'
  generalize okB b.data.toList = K at c2 hE hE'
  generalize textOf (ofT b.data.toList) = T at c1 c2
  generalize bodyE s.data.toList = F at c5 hbd
  have hbt : bodyT s.data.toList = nBody s.data.toList → textOf (bodyT s.data.toList) = textOf (nBody s.data.toList) := fun h => by rw [h]
  have hbt' : bodyT s.data.toList = [] → textOf (bodyT s.data.toList) = ⟨#[]⟩ := fun h => by rw [h]; rfl
  generalize textOf (bodyT s.data.toList) = V at c5 hbt hbt'
  generalize textOf (nBody s.data.toList) = U at c3 c4 hbt
  generalize nUsed s.data.toList = us at c3 c4 hbd
  generalize nSt s.data.toList = st at c3 c4 hbd
  have C1 := Lib.hid c1; have C2 := Lib.hid c2; have C3 := Lib.hid c3; have C4 := Lib.hid c4; have C5 := Lib.hid c5
  clear c1 c2 c3 c4 c5
  go_enter Try.func3, Try.ntmps3
  go_wp2_with fail
  refine (awake_any _).mono ?_
  rintro e w0 ⟨rfl, hb0⟩
  have HB0 := Lib.hid hb0; clear hb0
  go_wp2_with fail
  refine (C1.out _).mono ?_
  rintro e w1 ⟨rfl, hb1⟩
  have HB1 := Lib.hid (HB0.out.trans (hb1.mono HB0.out.size)); clear hb1 HB0
  go_wp2_with fail
  refine (C2.out _).mono ?_
  rintro e w2 ⟨rfl, hb2⟩
  have HB2 := Lib.hid (HB1.out.trans (hb2.mono HB1.out.size)); clear hb2 HB1
  have hKE : (E = 0 ∧ K = true) ∨ (E = 1 ∧ K = false) := by
    cases hK : K
    · exact .inr ⟨hE' hK, rfl⟩
    · exact .inl ⟨hE hK, rfl⟩
  clear hE hE'
  rcases hKE with ⟨rfl, rfl⟩ | ⟨rfl, rfl⟩
  all_goals
    go_wp2_with fail
    refine (C3.out _).mono ?_
    rintro e w3 ⟨rfl, hb3⟩
    have HB3 := Lib.hid (HB2.out.trans (hb3.mono HB2.out.size)); clear hb3 HB2
    go_wp2_with fail
    refine (C4.out _).mono ?_
    rintro e w4 ⟨rfl, hb4⟩
    have HB4 := Lib.hid (HB3.out.trans (hb4.mono HB3.out.size)); clear hb4 HB3
    go_wp2_with fail
    refine (C5.out _).mono ?_
    rintro e w5 ⟨rfl, hb5⟩
    have HB5 := Lib.hid (HB4.out.trans (hb5.mono HB4.out.size)); clear hb5 HB4 C1 C2 C3 C4 C5
    rcases hbd with ⟨rfl, rfl, h1, rfl⟩ | ⟨hno, h1, rfl⟩
    · obtain rfl := hbt h1
      clear hbt hbt' h1
      go_wp2_with fail
      go_ret
      exact ⟨rfl, HB5.out⟩
    · obtain rfl := hbt' h1
      clear hbt hbt' h1
      by_cases h3 : st = 1
      · subst h3
        have h4 : ¬ us = s.size := fun h => hno ⟨rfl, h⟩
        have h5 : ((us : Int) == (s.size : Int)) = false := by rw [beq_eq_false_iff_ne]; omega
        clear hno
        go_wp2_with fail
        go_ret
        exact ⟨rfl, HB5.out⟩
      · have h5 : ((st : Int) == 1) = false := by rw [beq_eq_false_iff_ne]; omega
        clear hno
        go_wp2_with fail
        go_ret
        exact ⟨rfl, HB5.out⟩
end Go.Proofs.Ytakooppceifamaa
