/- The contracts of frame.Cut and frame.All. -/
import Derived.Test.YtdgafpkigajgeaaFrmB
namespace Go.Proofs.Ytdgafpkigajgeaa
open Go.RowKit Go.Lib Plain

namespace Plain
/-- what is left behind the first j frames -/
def rst (l : List UInt8) : Nat → List UInt8
  | 0 => l
  | j + 1 => (rst l j).drop (nUsed (rst l j))
/-- the bodies of the first n frames -/
def bods (l : List UInt8) (n : Nat) : List (List UInt8) := (List.range n).map fun i => nBody (rst l i)
theorem bods_length (l : List UInt8) (n : Nat) : (bods l n).length = n := by simp [bods]
theorem bods_succ (l : List UInt8) (n : Nat) : bods l (n + 1) = bods l n ++ [nBody (rst l n)] := by simp [bods, List.range_succ]
/-- bytes begin with just n whole frames -/
structure CutsTo (l : List UInt8) (n : Nat) : Prop where
  all : ∀ i, i < n → nSt (rst l i) = 1
  stop : nSt (rst l n) ≠ 1
theorem CutsTo.eq {l : List UInt8} {n m : Nat} (h : CutsTo l n) (k : CutsTo l m) : n = m := by
  rcases Nat.lt_trichotomy n m with h1 | h1 | h1
  · exact absurd (k.all n h1) h.stop
  · exact h1
  · exact absurd (h.all m h1) k.stop
end Plain

/-- a row of texts that a call owns -/
def OwnS (w : World) (B : Nat) (v : Value) (ts : List ByteArray) : Prop := w.ownsRow B 9 1 v ts.length (ts.map Value.string)
theorem info9 : (Try.prog.info? 9).map (fun i => (i.zero, i.size, i.bytes)) = some (some (.string ⟨#[]⟩), 1, 16) := by kernel_rfl
theorem OwnS.below {w w' : World} {B : Nat} {v : Value} {ts : List ByteArray} (h : OwnS w B v ts) (hb : Below w.heap.size w w') : OwnS w' B v ts :=
  own_chg h (Chg.ofBelow hb (fun _ => False)) (fun _ _ h => h)

/-- what Cut answers: the bodies, what is left, what that is -/
def CutRet (w : World) (l : List UInt8) (e : Ending) (w' : World) : Prop :=
  ∃ n v, e = .returned (.tuple #[v, .string (textOf (rst l n)), .int .i64 (nSt (rst l n) : Int)]) ∧ CutsTo l n ∧ OwnS w' w.heap.size v ((bods l n).map textOf) ∧ Below w.heap.size w w'

theorem drop_text (r : List UInt8) (k : Nat) : (textOf r).extract k (textOf r).size = textOf (r.drop k) := by
  apply ByteArray.ext; apply Array.ext'
  rw [ByteArray.data_extract, Array.toList_extract, List.extract_eq_take_drop, textOf_data, textOf_data, textOf_size, List.take_of_length_le (by simp)]

set_option maxRecDepth 100000 in
set_option maxHeartbeats 1600000 in
theorem fcut_any (s : ByteArray) (w : World) (hs : s.size ≤ 1000000) : Calls Try.prog 18 #[.string s] w (CutRet w s.data.toList) := by
  obtain ⟨i9, hi9, hz90, hz91, hz92⟩ := info_parts info9
  have I9 := Lib.hid hi9; have Z90 := Lib.hid hz90; have Z91 := Lib.hid hz91; have Z92 := Lib.hid hz92; clear hi9 hz90 hz91 hz92
  have hl : s.data.toList.length ≤ 1000000 := by rw [size_list]; exact hs
  have e0 : s = textOf s.data.toList := (textOf_of s).symm
  generalize s.data.toList = l at hl e0 ⊢
  subst e0
  have HL := Lib.hid hl; clear hl hs
  go_enter Try.func18, Try.ntmps18
  go_wp2_with fail
  go_loopg [0, 5] l.length (fun g s0 s5 wx => ∃ (j : Nat) (v : Value), g = (rst l j).length ∧ s0 = .string (textOf (rst l j)) ∧ v = s5 ∧ (∀ i, i < j → nSt (rst l i) = 1) ∧ j + (rst l j).length ≤ l.length ∧ OwnS wx w.heap.size v ((bods l j).map textOf) ∧ Below w.heap.size w wx)
  case atStart => exact ⟨0, .slice none 0 0, rfl, rfl, rfl, fun i hi => absurd hi (by omega), by simp [rst], World.ownsRow_nil _ _ _ _, Below.refl _ _⟩
  case round =>
    obtain ⟨j, v, hg, rfl, rfl, hall, hjl, ho, hb⟩ := hrel
    have hle := HL.out
    have cn := fnext_any (textOf (rst l j)) wr (by rw [textOf_size]; omega)
    rw [textOf_data] at cn
    unfold nxtV at cn
    have hr : rst l (j + 1) = (rst l j).drop (nUsed (rst l j)) := rfl
    have hbs := bods_succ l j
    have hdt := drop_text (rst l j) (nUsed (rst l j))
    have hzt := textOf_size (rst l j)
    have hbl := bods_length l j
    by_cases h1 : nSt (rst l j) = 1
    · have hw := whole h1
      have hu := nUsed_yes h1
      have hall' : ∀ i, i < j + 1 → nSt (rst l i) = 1 := fun i hi => by
        rcases Nat.lt_or_ge i j with h | h
        · exact hall i h
        · obtain rfl : i = j := by omega
          exact h1
      rw [← hr] at hdt
      have hrl : (rst l (j + 1)).length = (rst l j).length - nUsed (rst l j) := by rw [hr, List.length_drop]
      rw [h1] at cn
      generalize nUsed (rst l j) = us at cn hdt hu hrl
      generalize nBody (rst l j) = bd at cn hbs
      generalize lenOf (rst l j) = ln at hw hu
      have hw1 := hw.2.1
      have hw4 := hw.2.2.2.1
      clear hw hr h1
      generalize hr1 : rst l (j + 1) = r1 at hdt hrl
      have HR1 := Lib.hid hr1; clear hr1
      generalize rst l j = r0 at cn hdt hzt hjl hg hrl hw4
      generalize textOf r0 = t0 at cn hdt hzt ⊢
      have hus : us ≤ t0.size := by omega
      have CN := Lib.hid cn; have HDT := Lib.hid hdt; have HBS := Lib.hid hbs; have HO := Lib.hid ho; have HB := Lib.hid hb; have HG := Lib.hid hg; have HA := Lib.hid hall'
      have HU := Lib.hid hu; have hj3 : j ≤ 1000000 := (by omega); clear cn hdt hbs ho hb hg hall hall' hu
      have hwz := HB.out.size
      have hml : ((bods l j).map textOf).length = j := by rw [List.length_map, hbl]
      have HML := Lib.hid hml; clear hml
      go_wp2_with fail
      refine CN.out.mono ?_
      rintro e w1 ⟨rfl, hb1⟩
      have o1 := HO.out.below hb1
      unfold OwnS at o1
      rw [HML.out] at o1
      have hz1 := hb1.size
      have O1 := Lib.hid o1; have HB1 := Lib.hid hb1; clear o1 hb1
      go_wp2_with (at_builtin; (refine wpList_append_lies _ rfl (.tmp 21) (.tmp 23) 22 rfl w.heap.size 9 i9 _ 1 16 Try.underlying22 I9.out Z90.out Z91.out Z92.out rfl (by omega) v j _ rfl (World.ownsRow.alloc O1.out _) ⟨w1.heap.size, 0, none⟩ 1 1 [.string (textOf bd)] rfl rfl (World.news_of_block (heap_alloc_new w1 _)) (by simp [Value.oneCell']) (by omega) (by unfold maxLen; omega) (by omega) (by simp; omega) (w1.heap.size + 1) (by simp) ?_); intro g8 cap8 w8 hown8 hgrow8 hat8 hlt8)
      go_roundg r1.length
      case measure => have := HG.out; have := HU.out; omega
      case rel =>
        have hb8 : Below w.heap.size w w8 := ((HB.out.trans (HB1.out.mono hwz)).alloc (by omega) _).grown hgrow8 (by simp; omega) (fun k hk => (O1.out.lt k hk).1)
        refine ⟨j + 1, _, by rw [HR1.out], ?_, rfl, HA.out, by rw [HR1.out]; have := HU.out; omega, ?_, hb8⟩
        · rw [HR1.out, ← hzt, HDT.out]
        · unfold OwnS
          rw [HBS.out, List.map_append, List.map_append, List.length_append, HML.out]
          exact hown8
    · have hst : CutsTo l j := ⟨hall, h1⟩
      have h1' : ((nSt (rst l j) : Int) == 1) = false := by rw [beq_eq_false_iff_ne]; omega
      have hc : (textOf (rst l j)).size ≤ 281474976710656 := by rw [textOf_size]; omega
      have h1'' : ¬ (nSt (rst l j) : Int) = 1 := by omega
      have HST := Lib.hid hst; have CN := Lib.hid cn; have HC := Lib.hid hc; have HO := Lib.hid ho; have HB := Lib.hid hb
      clear hst cn hc ho hb h1 hall hr hbs hdt hzt hbl hg
      go_wp2_with (first | (go_at_call 24; refine CN.out.mono ?_; rintro e w1 ⟨rfl, hb1⟩) | (go_at_call 25; refine (clone_any _ _ HC.out).mono ?_; rintro e w2 ⟨rfl, hb2⟩))
      go_ret3
      exact ⟨j, v, rfl, HST.out, (HO.out.below hb1).below hb2, (HB.out.trans (hb1.mono HB.out.size)).trans (hb2.mono (Nat.le_trans HB.out.size hb1.size))⟩

/-- a row of texts that came in: all below block B -/
def StrsAt (w : World) (B : Nat) (A : Option Addr) (ss : List ByteArray) : Prop :=
  ∀ i, i < ss.length → ∃ b off, A = some ⟨b, off, none⟩ ∧ b < B ∧ w.cell? ⟨b, off + i, none⟩ = some (.string (ss.getD i ByteArray.empty))
theorem StrsAt.keep {w w' : World} {B : Nat} {A : Option Addr} {ss : List ByteArray} (h : StrsAt w B A ss) (hb : Below B w w') : StrsAt w' B A ss := by
  intro i hi
  obtain ⟨b, off, e, hlt, hc⟩ := h i hi
  exact ⟨b, off, e, hlt, (hb.cell (p := ⟨b, off + i, none⟩) hlt).trans hc⟩
namespace Plain
/-- the frames of bodies, one behind the other -/
def frms (ls : List (List UInt8)) : List UInt8 := ls.flatMap frm
def allOk (ls : List (List UInt8)) : Bool := ls.all okB
def allT (ls : List (List UInt8)) : List UInt8 := if allOk ls = true then frms ls else []
def allE (ls : List (List UInt8)) : Int := if allOk ls = true then 0 else 1
theorem frms_snoc (ls : List (List UInt8)) (l : List UInt8) : frms (ls ++ [l]) = frms ls ++ frm l := by simp [frms]
theorem allT_yes {ls : List (List UInt8)} (h : allOk ls = true) : allT ls = frms ls := if_pos h
theorem allT_no {ls : List (List UInt8)} (h : allOk ls = false) : allT ls = [] := if_neg (by rw [h]; decide)
theorem allE_yes {ls : List (List UInt8)} (h : allOk ls = true) : allE ls = 0 := if_pos h
theorem allE_no {ls : List (List UInt8)} (h : allOk ls = false) : allE ls = 1 := if_neg (by rw [h]; decide)
theorem frms_length (ls : List (List UInt8)) (h : allOk ls = true) : (frms ls).length ≤ ls.length * 2054 := by
  induction ls with
  | nil => simp [frms]
  | cons a r ih =>
    unfold allOk at h
    rw [List.all_cons, Bool.and_eq_true] at h
    have := ih h.2
    have ha := (okB_iff a).1 h.1
    have hf := frm_length a
    show (frm a ++ frms r).length ≤ _
    rw [List.length_append, List.length_cons]
    omega
end Plain
def lists (ss : List ByteArray) : List (List UInt8) := ss.map fun s => s.data.toList
theorem lists_take (ss : List ByteArray) (j : Nat) (h : j < ss.length) : lists (ss.take (j + 1)) = lists (ss.take j) ++ [(ss.getD j ByteArray.empty).data.toList] := by
  unfold lists
  rw [List.take_add_one, List.map_append]
  simp [h]
end Go.Proofs.Ytdgafpkigajgeaa
