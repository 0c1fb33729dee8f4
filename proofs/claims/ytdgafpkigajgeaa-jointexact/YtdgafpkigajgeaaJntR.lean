/- The contracts of the document's own answers of layer 4: (*hoistwayref04.Joint).State and Feed. -/
import Derived.Test.YtdgafpkigajgeaaJntE
import Derived.Test.YtdgafpkigajgeaaJntArgs
import Derived.Lib.SlBuf
import Derived.Lib.AppendZeros
namespace Go.Proofs.Ytdgafpkigajgeaa
open Go.RowKit Go.Lib Plain

/-- the document's Joint at block u: these bytes, and as many frames told as they hold -/
def RAt (w : World) (u : Nat) (l : List UInt8) : Prop := At w u 29 #[.string (textOf l), .int .i64 (cnt l : Int)]
theorem RAt.c0 {w : World} {u : Nat} {l : List UInt8} (h : RAt w u l) : w.cell? ⟨u, 0, none⟩ = some (.string (textOf l)) := by rw [At.cell h]; rfl
theorem RAt.c1 {w : World} {u : Nat} {l : List UInt8} (h : RAt w u l) : w.cell? ⟨u, 1, none⟩ = some (.int .i64 (cnt l : Int)) := by rw [At.cell h]; rfl
theorem new_rat (w : World) : RAt (w.alloc (.cells #[.string ⟨#[]⟩, .int .i64 0] 29)) w.heap.size [] := by
  unfold RAt; rw [cnt_nil]; exact At.new w 29 _

/-- what State answers of these bytes: a slice that is there -/
def StRet (w : World) (l : List UInt8) (e : Ending) (w' : World) : Prop :=
  ∃ g cap, e = .returned (.tuple #[.slice (some ⟨g, 0, none⟩) (cnt l) cap, .int .i64 ((jW l).length : Int), .bool (jB l)]) ∧ OwnS w' w.heap.size (.slice (some ⟨g, 0, none⟩) (cnt l) cap) ((told l).map textOf) ∧ cnt l ≤ cap ∧ Below w.heap.size w w'
theorem ownS_cap {w : World} {B g n cap : Nat} {ts : List ByteArray} (h : OwnS w B (.slice (some ⟨g, 0, none⟩) n cap) ts) : n ≤ cap := by
  rcases h.2 with ⟨h0, _⟩ | ⟨g', cap', cur, hv, _, _, hn, _⟩
  · cases h0
  · injection hv with _ h1 h2
    omega
theorem ret_sib {v : Value} {a b : Int} {c d : Bool} (h : a = b) (h2 : c = d) : Ending.returned (.tuple #[v, .int .i64 a, .bool c]) = .returned (.tuple #[v, .int .i64 b, .bool d]) := by rw [h, h2]

set_option maxRecDepth 100000 in
set_option maxHeartbeats 1600000 in
theorem rstate_any {w : World} {u : Nat} {l : List UInt8} (n0 : Int) (h : At w u 29 #[.string (textOf l), .int .i64 n0]) (hl : l.length ≤ 100000) : Calls Try.prog 12 #[.pointer (some ⟨u, 0, none⟩)] w (StRet w l) := by
  obtain ⟨i9, hi9, hz90, hz91, hz92⟩ := info_parts info9
  have I9 := Lib.hid hi9; have Z90 := Lib.hid hz90; have Z91 := Lib.hid hz91; have Z92 := Lib.hid hz92; clear hi9 hz90 hz91 hz92
  have c0 : w.cell? ⟨u, 0, none⟩ = some (.string (textOf l)) := by rw [At.cell h]; rfl
  have H := Lib.hid h; have HL := Lib.hid hl; clear h hl
  go_enter Try.func12, Try.ntmps12
  go_wp2_with fail
  clear c0
  go_loopg [5, 6] l.length (fun gg s5 s6 wx => ∃ (j g cap : Nat), gg = (rst l j).length ∧ s5 = .string (textOf (rst l j)) ∧ s6 = .slice (some ⟨g, 0, none⟩) j cap ∧ (∀ i, i < j → nSt (rst l i) = 1) ∧ j + (rst l j).length ≤ l.length ∧ OwnS wx w.heap.size (.slice (some ⟨g, 0, none⟩) j cap) ((bods l j).map textOf) ∧ Below w.heap.size w wx)
  case atStart => exact ⟨0, w.heap.size, 0, rfl, rfl, rfl, fun i hi => absurd hi (by omega), by simp [rst], World.ownsRow_lit w #[] 0 (Nat.le_refl _) (by decide) rfl, (Below.refl _ _).alloc (Nat.le_refl _) _⟩
  case round =>
    obtain ⟨j, g, cap, hg, rfl, rfl, hall, hjl, ho, hb⟩ := hrel
    have hle := HL.out
    have cn := rnext_any (textOf (rst l j)) wr (by rw [textOf_size]; omega)
    rw [textOf_data] at cn
    unfold nxtV at cn
    have hr : rst l (j + 1) = (rst l j).drop (nUsed (rst l j)) := rfl
    have hbs := bods_succ l j
    have hdt := drop_text (rst l j) (nUsed (rst l j))
    have hzt := textOf_size (rst l j)
    have hbl := bods_length l j
    by_cases h1 : nSt (rst l j) = 1
    · have hw := whole h1
      have hu := nUsed_yes h1
      have hall' : ∀ i, i < j + 1 → nSt (rst l i) = 1 := fun i hi => by
        rcases Nat.lt_or_ge i j with h | h
        · exact hall i h
        · obtain rfl : i = j := by omega
          exact h1
      rw [← hr] at hdt
      have hrl : (rst l (j + 1)).length = (rst l j).length - nUsed (rst l j) := by rw [hr, List.length_drop]
      rw [h1] at cn
      generalize nUsed (rst l j) = us at cn hdt hu hrl
      generalize nBody (rst l j) = bd at cn hbs
      generalize lenOf (rst l j) = ln at hw hu
      have hw1 := hw.2.1
      have hw4 := hw.2.2.2.1
      clear hw hr h1
      generalize hr1 : rst l (j + 1) = r1 at hdt hrl
      have HR1 := Lib.hid hr1; clear hr1
      generalize rst l j = r0 at cn hdt hzt hjl hg hrl hw4
      generalize textOf r0 = t0 at cn hdt hzt ⊢
      have hus : us ≤ t0.size := by omega
      have CN := Lib.hid cn; have HDT := Lib.hid hdt; have HBS := Lib.hid hbs; have HO := Lib.hid ho; have HB := Lib.hid hb; have HG := Lib.hid hg; have HA := Lib.hid hall'
      have HU := Lib.hid hu; have hj3 : j ≤ 100000 := (by omega); clear cn hdt hbs ho hb hg hall hall' hu
      have hwz := HB.out.size
      have hml : ((bods l j).map textOf).length = j := by rw [List.length_map, hbl]
      have HML := Lib.hid hml; clear hml
      go_wp2_with fail
      refine CN.out.mono ?_
      rintro e w1 ⟨rfl, hb1⟩
      have o1 := HO.out.below hb1
      unfold OwnS at o1
      rw [HML.out] at o1
      have hz1 := hb1.size
      have O1 := Lib.hid o1; have HB1 := Lib.hid hb1; clear o1 hb1
      go_wp2_with (at_builtin; (refine wpList_append_lies _ rfl (.tmp 29) (.tmp 31) 22 rfl w.heap.size 9 i9 _ 1 16 Try.underlying22 I9.out Z90.out Z91.out Z92.out rfl (by omega) _ j _ rfl (World.ownsRow.alloc O1.out _) ⟨w1.heap.size, 0, none⟩ 1 1 [.string (textOf bd)] rfl rfl (World.news_of_block (heap_alloc_new w1 _)) (by simp [Value.oneCell']) (by omega) (by unfold maxLen; omega) (by omega) (by simp; omega) (w1.heap.size + 1) (by simp) ?_); intro g8 cap8 w8 hown8 hgrow8 hat8 hlt8)
      go_roundg r1.length
      case measure => have := HG.out; have := HU.out; omega
      case rel =>
        have hb8 : Below w.heap.size w w8 := ((HB.out.trans (HB1.out.mono hwz)).alloc (by omega) _).grown hgrow8 (by simp; omega) (fun k hk => (O1.out.lt k hk).1)
        refine ⟨j + 1, _, _, by rw [HR1.out], ?_, rfl, HA.out, by rw [HR1.out]; have := HU.out; omega, ?_, hb8⟩
        · rw [HR1.out, ← hzt, HDT.out]
        · unfold OwnS
          rw [HBS.out, List.map_append, List.map_append, List.length_append, HML.out]
          exact hown8
    · have hst : CutsTo l j := ⟨hall, h1⟩
      obtain rfl := cnt_of hst
      have htl : bods l (cnt l) = told l := rfl
      have hjr : rst l (cnt l) = jR l := rfl
      have hcap := ownS_cap ho
      rw [htl] at ho
      rw [hjr] at cn hzt ⊢
      have HO := Lib.hid ho; have HB := Lib.hid hb; have HCAP := Lib.hid hcap
      clear hst ho hb h1 hall hr hbs hdt hbl hg htl hjr hjl
      have hle2 := jR_le l
      rcases jnSt l with h5 | h5
      · have hbr : jB l = false := by unfold jB; rw [h5]; rfl
        have hwr : jW l = jR l := jW_ok hbr
        rw [h5] at cn
        have hz2 : (textOf (jR l)).size ≤ 100000 := by omega
        generalize textOf (jR l) = t0 at cn hzt hz2 ⊢
        have CN := Lib.hid cn; have HBR := Lib.hid hbr; have HWR := Lib.hid hwr; have HZ := Lib.hid hzt; clear cn hbr hwr h5 hzt hle2 hle
        go_wp2_with fail
        refine CN.out.mono ?_
        rintro e w1 ⟨rfl, hb1⟩
        have HB1 := Lib.hid hb1; clear hb1
        go_wp2_with fail
        go_ret3
        exact ⟨g, cap, ret_sib (by rw [HWR.out, HZ.out]) HBR.out.symm, HO.out.below HB1.out, HCAP.out, HB.out.trans (HB1.out.mono HB.out.size)⟩
      · have hbr : jB l = true := by unfold jB; rw [h5]; rfl
        have hwr : jW l = [] := jW_bad hbr
        rw [h5] at cn
        generalize textOf (jR l) = t0 at cn hzt ⊢
        have CN := Lib.hid cn; have HBR := Lib.hid hbr; have HWR := Lib.hid hwr; clear cn hbr hwr h5 hzt hle2 hle
        go_wp2_with fail
        refine CN.out.mono ?_
        rintro e w1 ⟨rfl, hb1⟩
        have HB1 := Lib.hid hb1; clear hb1
        go_wp2_with fail
        go_ret3
        exact ⟨g, cap, ret_sib (by rw [HWR.out]; rfl) HBR.out.symm, HO.out.below HB1.out, HCAP.out, HB.out.trans (HB1.out.mono HB.out.size)⟩

/-- the bytes that count: behind what is bad no more -/
def eff (l c : List UInt8) : List UInt8 := if jB l = true then l else l ++ c
theorem eff_bad {l : List UInt8} (c : List UInt8) (h : jB l = true) : eff l c = l := if_pos h
theorem eff_ok {l : List UInt8} (c : List UInt8) (h : jB l = false) : eff l c = l ++ c := if_neg (by rw [h]; decide)
theorem eff_bad_news {l : List UInt8} (c : List UInt8) (h : jB l = true) : news l c = [] := (bad_stays c h).2.2.1
theorem eff_length (l c : List UInt8) : (eff l c).length ≤ l.length + c.length := by
  unfold eff; split
  · omega
  · rw [List.length_append]; exact Nat.le_refl _
/-- Feed of a Joint, told by the bytes that count -/
theorem jfeed_eff {w : World} {p : Nat} {l : List UInt8} (h : JAt w p l) (c : ByteArray) (hz : l.length + c.size ≤ 900000) :
    Calls Try.prog 10 #[.pointer (some ⟨p, 0, none⟩), .string c] w fun e w' => ∃ v, e = .returned (.tuple #[v, .bool (!jB (eff l c.data.toList))]) ∧ OwnS w' w.heap.size v ((news l c.data.toList).map textOf) ∧ JAt w' p (eff l c.data.toList) ∧ Chg w w' (fun k => k = p) := by
  refine (jfeed_any h c hz).mono ?_
  rintro e w' ⟨v, rfl, ho, hj, hc⟩
  cases hb : jB l
  · rw [eff_ok _ hb]; exact ⟨v, rfl, ho, hj, hc⟩
  · obtain ⟨h1, h2, h3, h4⟩ := bad_stays c.data.toList hb
    rw [eff_bad _ hb]
    exact ⟨v, ret_vb (by rw [h1, hb]), ho, hj.eq (by rw [h4, jW_bad hb]) h2.symm (by rw [h1, hb]), hc⟩

/-- 'l[n:]' of a row of texts -/
def tailS (g N cap n : Nat) : Value := .slice (some (if cap = n then ⟨g, 0, none⟩ else ⟨g, n, none⟩)) (N - n) (cap - n)
theorem run_tailS (W : World) (g N cap n : Nat) (hb : n ≤ N) (hc : N ≤ cap) :
    (Instr.slice 22 (.slice (some ⟨g, 0, none⟩) N cap) (some (.int .i64 (n : Int))) none none).run Try.prog W = .ok (tailS g N cap n) W := by
  have ht' : Try.prog.underlying 22 = some (.slice (Try.prog.elem 22)) := by simp [Program.elem, Try.underlying22]
  have he : Try.prog.elem 22 = 9 := by simp [Program.elem, Try.underlying22]
  rw [run_slice_l W 22 _ _ _ ht' .i64 _ (by omega) (by omega), he, Try.sizeOf9]
  unfold tailS
  by_cases h0 : cap = n
  · simp [Result.andThen, sliced, h0]
  · by_cases h1 : n = 0
    · subst h1; simp [Result.andThen, sliced, Addr.add, h0]
    · simp [Result.andThen, sliced, Addr.add, h0, h1]
theorem tail_src {w : World} {B g N cap n : Nat} {ts : List ByteArray} (h : OwnS w B (.slice (some ⟨g, 0, none⟩) N cap) ts) (hN : ts.length = N) (hn : n ≤ N) : SrcS w (tailS g N cap n) (ts.drop n) := by
  have hcap := ownS_cap h
  have hl : (ts.drop n).length = N - n := by rw [List.length_drop, hN]
  unfold tailS
  by_cases h0 : cap = n
  · refine .inr ⟨g, 0, cap - n, by rw [if_pos h0, hl], fun i hi => ?_⟩
    omega
  · refine .inr ⟨g, n, cap - n, by rw [if_neg h0, hl], fun i hi => ?_⟩
    have hi2 : n + i < ts.length := by omega
    have := World.ownsRow.cells h (g := g) rfl (n + i) (.string (ts.getD (n + i) ByteArray.empty)) (by simp [hi2])
    rw [add_at, Nat.zero_add] at this
    rw [this]
    simp [List.getD]
theorem ownS_le {w : World} {B B' : Nat} {v : Value} {ts : List ByteArray} (h : OwnS w B v ts) (hB : B' ≤ B) : OwnS w B' v ts := by
  refine ⟨h.1, ?_⟩
  rcases h.2 with hn | ⟨g, cap, cur, hv, hb, rest⟩
  · exact .inl hn
  · exact .inr ⟨g, cap, cur, hv, by omega, rest⟩
theorem news_drop (l c : List UInt8) : ((told (l ++ c)).map textOf).drop (cnt l) = (news l c).map textOf := by
  rw [told_app, List.map_append, List.drop_append_of_le_length (by rw [List.length_map, told_length]; exact Nat.le_refl _), List.drop_of_length_le (by rw [List.length_map, told_length]; exact Nat.le_refl _), List.nil_append]
/-- what Feed of the document answers, and how its Joint is behind it -/
def RFed (w : World) (u : Nat) (l c : List UInt8) (e : Ending) (w' : World) : Prop :=
  ∃ v, e = .returned (.tuple #[v, .bool (!jB (eff l c))]) ∧ OwnS w' w.heap.size v ((news l c).map textOf) ∧ RAt w' u (eff l c) ∧ Chg w w' (fun k => k = u)

set_option maxRecDepth 100000 in
set_option maxHeartbeats 1600000 in
theorem rfeed_any {w : World} {u : Nat} {l : List UInt8} (h : RAt w u l) (c : ByteArray) (hz : l.length + c.size ≤ 100000) :
    Calls Try.prog 11 #[.pointer (some ⟨u, 0, none⟩), .string c] w (RFed w u l c.data.toList) := by
  have cs := rstate_any _ h (by omega)
  cases hb : jB l
  · have e1 : textOf l ++ c = textOf (l ++ c.data.toList) := by rw [← textOf_append, textOf_of]
    have hll : (l ++ c.data.toList).length ≤ 100000 := by rw [List.length_append, size_list]; exact hz
    have hz1 : (textOf l).size ≤ 100000 := by rw [textOf_size]; omega
    have hz2 : c.size ≤ 100000 := by omega
    have hnd := news_drop l c.data.toList
    have hca := cnt_app l c.data.toList
    have hcl := cnt_le l
    have hcl2 := cnt_le (l ++ c.data.toList)
    have hef := eff_ok c.data.toList hb
    have htl := told_length (l ++ c.data.toList)
    unfold RFed
    rw [hef]
    unfold StRet at cs
    rw [hb] at cs
    have hlen : ((news l c.data.toList).map textOf).length ≤ 100000 := by
      rw [List.length_map]; unfold news; rw [told_length]; omega
    generalize news l c.data.toList = nw at *
    generalize hm : l ++ c.data.toList = m at *
    have hcm : cnt l ≤ cnt m := by omega
    have hcm2 : cnt m ≤ 100000 := by omega
    have H := Lib.hid h; have CS := Lib.hid cs; have E1 := Lib.hid e1; have HLL := Lib.hid hll; have HND := Lib.hid hnd; have HM := Lib.hid hm; have HTL := Lib.hid htl; have HLEN := Lib.hid hlen
    clear h cs hll hnd hm hca hcl hcl2 hef hz htl hlen
    go_enter Try.func11, Try.ntmps11
    go_wp2_with fail
    refine CS.out.mono ?_
    rintro e w1 ⟨g1, cap1, rfl, ho1, _, hb1⟩
    have h1 : RAt w1 u l := At.below H.out hb1 H.out.lt
    have c0 := h1.c0; have c1 := h1.c1
    have f0 := At.frozen h1 0; have f1 := At.frozen h1 1
    have h2 : At (w1.setCell ⟨u, 0, none⟩ (.string (textOf m))) u 29 #[.string (textOf m), .int .i64 (cnt l : Int)] := at2_set0 h1 _
    have hc2 : Chg w (w1.setCell ⟨u, 0, none⟩ (.string (textOf m))) (fun k => k = u) := (Chg.ofBelow hb1 (fun k => k = u)).set (fun _ => rfl) _
    have cs2 := rstate_any _ h2 HLL.out
    have CS2 := Lib.hid cs2; have H2 := Lib.hid h2; have HC2 := Lib.hid hc2
    clear cs2 h1 h2 hc2 ho1 hb1 H CS
    generalize htm : textOf m = tm at e1 H2 HC2 CS2
    have HTM := Lib.hid htm; clear htm
    go_wp2_with fail
    refine CS2.out.mono ?_
    generalize w1.setCell ⟨u, 0, none⟩ (.string tm) = w2 at *
    rintro e w3 ⟨g3, cap3, rfl, ho3, hc3, hb3⟩
    have h3 := At.below H2.out hb3 H2.out.lt
    have c1 : w3.cell? ⟨u, 1, none⟩ = some (.int .i64 (cnt l : Int)) := by rw [At.cell h3]; rfl
    have hcg3 : Chg w w3 (fun k => k = u) := HC2.out.trans (Chg.ofBelow hb3 (fun _ => False)) (fun _ _ h => h.elim)
    have c1' : (w3.alloc (.cells #[] 9)).cell? ⟨u, 1, none⟩ = some (.int .i64 (cnt l : Int)) := by rw [At.cell (At.alloc h3 _)]; rfl
    have hlit : OwnS (w3.alloc (.cells #[] 9)) w3.heap.size (.slice (some ⟨w3.heap.size, 0, none⟩) 0 0) [] := World.ownsRow_lit w3 #[] 0 (Nat.le_refl _) (by decide) rfl
    have hsr := tail_src (World.ownsRow.alloc ho3 (.cells #[] 9)) (by rw [List.length_map]; exact HTL.out) hcm
    rw [HND.out] at hsr
    obtain ⟨v5, w5, hr5, ho5, hg5⟩ := append_strs 22 hlit hsr (by have := HLEN.out; simp only [List.length_nil]; omega) (by simp)
    have h5 : At w5 u 29 #[.string tm, .int .i64 (cnt l : Int)] := At.chg (At.alloc h3 _) (Chg.grown hg5) (fun e => own_ne hlit (At.alloc h3 _) (by decide) e)
    have hcg5 : Chg w w5 (fun k => k = u) := (hcg3.alloc _).trans (Chg.grown hg5) (fun i hi e => by
      have : w3.heap.size = i := by simpa [Value.ownBlock] using e
      have := hcg3.size
      omega)
    have hrt := fun W => run_tailS W g3 (cnt m) cap3 (cnt l) hcm hc3
    have h6 := at2_set1 h5 (.int .i64 (cnt m : Int))
    have hc6 : Chg w (w5.setCell ⟨u, 1, none⟩ (.int .i64 (cnt m : Int))) (fun k => k = u) := hcg5.set (fun _ => rfl) _
    have ho6 : OwnS (w5.setCell ⟨u, 1, none⟩ (.int .i64 (cnt m : Int))) w.heap.size v5 (nw.map textOf) := by
      rw [List.nil_append] at ho5
      refine own_chg (ownS_le ho5 hcg3.size) ((Chg.refl w5 (fun k => k = u)).set (p := ⟨u, 1, none⟩) (fun _ => rfl) _) (fun k hk e => ?_)
      subst e
      exact own_ne ho5 h5 (by decide) hk
    have c5 : w5.cell? ⟨u, 1, none⟩ = some (.int .i64 (cnt l : Int)) := by rw [At.cell h5]; rfl
    have f5 := At.frozen h5 1
    obtain ⟨ad, had⟩ : ∃ ad, tailS g3 (cnt m) cap3 (cnt l) = .slice (some ad) (cnt m - cnt l) (cap3 - cnt l) := ⟨_, rfl⟩
    rw [had] at hrt hr5
    have HR5 := Lib.hid hr5; have HO6 := Lib.hid ho6; have H6 := Lib.hid h6; have HC6 := Lib.hid hc6
    clear had h3 hcg3 hlit hsr hr5 ho5 hg5 h5 hcg5 h6 hc6 ho6 ho3 hb3 CS2 H2 HC2 c0 f0 f1
    go_wp2_with (at_builtin; (refine Lib.wpList_append_run _ rfl (.tmp 35) (.tmp 41) 22 22 rfl _ _ rfl rfl v5 w5 HR5.out ?_))
    go_ret2
    exact ⟨_, rfl, HO6.out, by rw [← HTM.out] at H6; exact H6.out, HC6.out⟩
  · have hef := eff_bad c.data.toList hb
    have hnw := eff_bad_news c.data.toList hb
    unfold RFed
    rw [hef, hnw, hb]
    unfold StRet at cs
    rw [hb] at cs
    have CS := Lib.hid cs; have H := Lib.hid h; clear cs h hef hnw hz hb
    go_enter Try.func11, Try.ntmps11
    go_wp2_with fail
    refine CS.out.mono ?_
    rintro e w1 ⟨g1, cap1, rfl, ho1, _, hb1⟩
    have HB1 := Lib.hid hb1; clear ho1 hb1
    go_wp2_with fail
    go_ret2
    exact ⟨_, rfl, World.ownsRow_nil _ _ _ _, At.below H.out HB1.out H.out.lt, Chg.ofBelow HB1.out _⟩
end Go.Proofs.Ytdgafpkigajgeaa
