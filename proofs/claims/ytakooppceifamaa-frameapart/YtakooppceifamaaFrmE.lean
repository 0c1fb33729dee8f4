/- The anchor 'awake' of the statements returns true, and leaves what was there as it was. -/
import Derived.Test.YtakooppceifamaaFrmC
namespace Go.Proofs.Ytakooppceifamaa
open Go.RowKit Go.Lib Plain

theorem body_cases (l : List UInt8) : (nSt l = 1 ∧ nUsed l = l.length ∧ bodyT l = nBody l ∧ bodyE l = 0) ∨ (¬ (nSt l = 1 ∧ nUsed l = l.length) ∧ bodyT l = [] ∧ bodyE l = 4) := by
  by_cases h : nSt l = 1 ∧ nUsed l = l.length
  · have := (bodyOk_iff l).2 h
    exact .inl ⟨h.1, h.2, if_pos this, if_pos this⟩
  · have h' : ¬ bodyOk l = true := fun k => h ((bodyOk_iff l).1 k)
    exact .inr ⟨h, if_neg h', if_neg h'⟩

def sa : ByteArray := ⟨#[97]⟩
/-- a's frame -/
def fa : ByteArray := ⟨#[0, 1, 97, 157, 185, 239, 220]⟩
theorem ka1 : textOf (ofT sa.data.toList) = fa := by decide +kernel
theorem ka2 : ofE sa.data.toList = 0 := by decide +kernel
def fax : ByteArray := ⟨#[0, 1, 97, 157, 185, 239, 220, 120]⟩
theorem ka3 : fa ++ ⟨#[120]⟩ = fax := by decide +kernel
theorem ka4 : nSt fax.data.toList = 1 := by decide +kernel
theorem ka5 : nBody fax.data.toList = [97] := by decide +kernel
theorem ka6 : nUsed fax.data.toList = 7 := by decide +kernel
theorem ka7 : textOf (ofT (⟨#[]⟩ : ByteArray).data.toList) = ⟨#[]⟩ := by decide +kernel
theorem ka8 : ofE (⟨#[]⟩ : ByteArray).data.toList = 1 := by decide +kernel
def faa : ByteArray := ⟨#[0, 1, 97, 157, 185, 239, 220, 0, 1, 97, 157, 185, 239, 220, 0]⟩
theorem ka9 : fa ++ fa ++ ⟨#[0]⟩ = faa := by decide +kernel
theorem kaa : CutsTo faa.data.toList 2 := ⟨fun i hi => by
  obtain rfl | rfl : i = 0 ∨ i = 1 := by omega
  · decide +kernel
  · decide +kernel, by decide +kernel⟩
theorem kab : rst faa.data.toList 2 = [0] := by decide +kernel
theorem kac : nSt (rst faa.data.toList 2) = 2 := by decide +kernel

/-- what Cut answers, written out: a slice of n cells -/
theorem OwnS.form {w : World} {B : Nat} {v : Value} {ts : List ByteArray} (h : OwnS w B v ts) (hn : 0 < ts.length) : ∃ g cap, v = .slice (some ⟨g, 0, none⟩) ts.length cap := by
  rcases h.2 with ⟨_, h0⟩ | ⟨g, cap, _, hv, _⟩
  · omega
  · exact ⟨g, cap, hv⟩

set_option maxRecDepth 100000 in
set_option maxHeartbeats 1600000 in
theorem awake_any (w : World) : Calls Try.prog 9 #[] w fun e w' => e = .returned (.bool true) ∧ Below w.heap.size w w' := by
  have t1 : fa.toList = [0, 1, 97, 157, 185, 239, 220] := by rw [ByteArray.toList_eq]; rfl
  have t2 : sa.toList = [97] := by rw [ByteArray.toList_eq]; rfl
  have z1 : fa.size = 7 := rfl
  go_enter Try.func9, Try.ntmps9
  go_wp2_with fail
  refine (fof_any sa _ (by decide)).mono ?_
  rintro e w1 ⟨rfl, hb1⟩
  rw [ka1, ka2]
  have e1 := ka3
  have c2 := fnext_any fax w1 (by decide)
  unfold nxtV at c2
  rw [ka4, ka5, ka6] at c2
  have C2 := Lib.hid c2; have HB1 := Lib.hid hb1; clear c2 hb1
  go_wp2_with fail
  refine C2.out.mono ?_
  rintro e w2 ⟨rfl, hb2⟩
  have hk5 : textOf [97] = sa := rfl
  rw [hk5]
  have HB2 := Lib.hid (HB1.out.trans (hb2.mono HB1.out.size)); clear hb2 HB1 C2 hk5
  go_wp2_with fail
  refine (fof_any ⟨#[]⟩ _ (by decide)).mono ?_
  rintro e w3 ⟨rfl, hb3⟩
  rw [ka7, ka8]
  have HB3 := Lib.hid (HB2.out.trans (hb3.mono HB2.out.size)); clear hb3 HB2
  have e2 := ka9
  clear e1
  go_wp2_with fail
  refine (fcut_any faa w3 (by decide)).mono ?_
  rintro e w4 ⟨n, v, rfl, hc, ho, hb4⟩
  obtain rfl := hc.eq kaa
  rw [kab]
  have hs2 : nSt [0] = 2 := by decide
  rw [hs2]
  obtain ⟨g, cap, rfl⟩ := ho.form (by rw [List.length_map, bods_length]; omega)
  have hl2 : ((bods faa.data.toList 2).map textOf).length = 2 := by rw [List.length_map, bods_length]
  rw [hl2]
  have HB4 := Lib.hid (HB3.out.trans (hb4.mono HB3.out.size)); clear hb4 HB3 hc ho e2 hl2 hs2
  have x3 : fa.extract 0 3 = ⟨#[0, 1, 97]⟩ := by decide +kernel
  have x4 : (⟨#[0, 1, 97]⟩ : ByteArray).toList = [0, 1, 97] := by rw [ByteArray.toList_eq]
  have x5 : (⟨#[97]⟩ : ByteArray).toList = [97] := by rw [ByteArray.toList_eq]
  have x6 : (⟨#[0]⟩ : ByteArray).toList = [0] := by rw [ByteArray.toList_eq]
  have x7 : textOf [0] = ⟨#[0]⟩ := rfl
  rw [x7]
  clear x7
  go_wp2_with fail
  go_ret
  exact ⟨rfl, HB4.out⟩
end Go.Proofs.Ytakooppceifamaa
