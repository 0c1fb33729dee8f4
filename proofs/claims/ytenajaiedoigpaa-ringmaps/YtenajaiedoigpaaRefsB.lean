/- The contract of hoistwayref05.Drop; and how a row of deeds that came in is read. -/
import Derived.Test.YtenajaiedoigpaaRefs
import Derived.Deep.Slices
import Derived.Deep.Fields
import Derived.ChangeSame
namespace Go.Proofs.Ytenajaiedoigpaa
open Go.RowKit Go.Lib Plain

/-- what stays of numbers -/
def staysI (by_ : Int) (zs : List Int) : List Int := zs.filter (fun x => !oddB by_ x)
theorem stays_map (by_ : Int) (its : List (Int × Nat)) : (stays by_ its).map (·.1) = staysI by_ (its.map (·.1)) := by
  unfold stays staysI
  rw [List.filter_map]
  rfl
theorem staysI_take {by_ : Int} {zs : List Int} {j : Nat} (h : j < zs.length) : staysI by_ (zs.take (j + 1)) = if oddB by_ (zs.getD j 0) = true then staysI by_ (zs.take j) else staysI by_ (zs.take j) ++ [zs.getD j 0] := by
  have : zs.take (j + 1) = zs.take j ++ [zs.getD j 0] := by rw [List.take_add_one]; simp [List.getD, h]
  unfold staysI
  rw [this, filter_snoc]
  by_cases hq : oddB by_ (zs.getD j 0) = true
  · rw [if_pos hq, if_neg (by rw [hq]; decide)]
  · rw [if_neg hq, if_pos (by rw [Bool.eq_false_iff.2 hq]; rfl)]
theorem staysI_length (by_ : Int) (zs : List Int) : (staysI by_ zs).length ≤ zs.length := List.length_filter_le _ _
set_option maxRecDepth 100000 in
set_option maxHeartbeats 800000 in
theorem rdrop_any {w : World} {B : Nat} {v : Value} {zs : List Int} (by_ : Int) (h1 : 2 ≤ by_) (h2 : by_ ≤ 4) (h : OwnI w B v zs) (hn : zs.length ≤ 1000) :
    Calls Try.prog 18 #[v, .int .i64 by_] w fun e w' => ∃ v', e = .returned v' ∧ OwnI w' w.heap.size v' (staysI by_ zs) ∧ Below w.heap.size w w' := by
  have b0 : ¬ by_ = 0 := by omega
  have b1 : ¬ by_ = -1 := by omega
  obtain ⟨O, cap, rfl, hi⟩ := h.sl
  have ho0 : OwnI (w.alloc (.cells #[] 3)) w.heap.size (.slice (some ⟨w.heap.size, 0, none⟩) 0 0) (staysI by_ (zs.take 0)) := own_lit0 w (Nat.le_refl _)
  have HI := Lib.hid hi; have HO0 := Lib.hid ho0; clear h hi ho0
  go_enter Try.func18, Try.ntmps18
  go_wp2_with fail
  go_loopg [5, 6] zs.length (fun gh s5 s6 wx => ∃ (j : Nat) (vo : Value), j ≤ zs.length ∧ gh = zs.length - j ∧ vo = s5 ∧ s6 = .int .i64 (j : Int) ∧ OwnI wx w.heap.size vo (staysI by_ (zs.take j)) ∧ Below w.heap.size w wx)
  case atStart => exact ⟨0, _, Nat.zero_le _, rfl, rfl, rfl, HO0.out, (Below.refl _ _).alloc (Nat.le_refl _) _⟩
  case round =>
    obtain ⟨j, vo, hj, hg, rfl, rfl, ho, hb⟩ := hrel
    have HG := Lib.hid hg; have HO := Lib.hid ho; have HB := Lib.hid hb; clear hg ho hb HO0
    by_cases hlt : j < zs.length
    · obtain ⟨b, off, rfl, hbl, hc⟩ := (HI.out.keep HB.out) j hlt
      have htk := staysI_take (by_ := by_) hlt
      have hsl := staysI_length by_ (zs.take j)
      rw [List.length_take] at hsl
      generalize zs.getD j 0 = x at hc htk
      have b3 : (j : Int) < (zs.length : Int) := by omega
      have b4 : (0 : Int) ≤ (j : Int) := by omega
      have hsz := HB.out.size
      cases hq : oddB by_ x
      · rw [if_neg (by rw [hq]; decide)] at htk
        have hq1 : (x.tmod by_ == 0) = false := hq
        have hq2 : (x.tmod by_ != 0) = true := by rw [bne, hq1]; rfl
        have hq3 : ¬ x.tmod by_ = 0 := by simpa using hq1
        have hb2 : Below wr.heap.size wr (wr.alloc (.cells #[.int .i64 x] 3)) := (Below.refl _ _).alloc (Nat.le_refl _) _
        obtain ⟨v2, w2, hr2, ho2, hg2, _⟩ := append_ints 30 (HO.out.below hb2) (src_one wr x) (by simp; omega) (by simp; omega)
        have hb3 : Below w.heap.size w w2 := (HB.out.trans (hb2.mono hsz)).grown hg2 (by simp; omega) (fun k hk => (HO.out.lt hk).1)
        rw [← htk] at ho2
        have HR2 := Lib.hid hr2; have HF := Lib.hid (And.intro ho2 hb3)
        clear hr2 ho2 hg2 hb3 hb2 htk hq
        go_wp2_with (at_builtin; (refine Lib.wpList_append_run _ rfl (.tmp 21) (.tmp 26) 30 30 rfl _ _ rfl rfl v2 w2 HR2.out ?_))
        go_roundg (zs.length - (j + 1))
        case measure => have := HG.out; omega
        case rel => exact ⟨j + 1, v2, by omega, rfl, rfl, by go_num, HF.out⟩
      · rw [if_pos hq] at htk
        have hq1 : (x.tmod by_ == 0) = true := hq
        have hq2 : (x.tmod by_ != 0) = false := by rw [bne, hq1]; rfl
        have hq3 : x.tmod by_ = 0 := by simpa using hq1
        have HTK := Lib.hid htk; clear htk hq
        go_wp2_with fail
        go_roundg (zs.length - (j + 1))
        case measure => have := HG.out; omega
        case rel => exact ⟨j + 1, vo, by omega, rfl, rfl, by go_num, by rw [HTK.out]; exact HO.out, HB.out⟩
    · obtain rfl : j = zs.length := by omega
      have ho := HO.out
      rw [List.take_of_length_le (Nat.le_refl _)] at ho
      have HO2 := Lib.hid ho; clear ho HO
      go_wp2_with fail
      go_ret
      exact ⟨vo, rfl, HO2.out, HB.out⟩
/-- a deed -/
structure Deed where
  kind : Int
  n : Int
/-- a row of deeds that came in: all below block B -/
def ActsAt (w : World) (B : Nat) (A : Option Addr) (acts : List Deed) : Prop :=
  ∀ i, i < acts.length → ∃ b off, A = some ⟨b, off, none⟩ ∧ b < B ∧ w.cell? ⟨b, off + i * 2, none⟩ = some (.int .i64 (acts.getD i ⟨0, 0⟩).kind) ∧ w.cell? ⟨b, off + i * 2 + 1, none⟩ = some (.int .i64 (acts.getD i ⟨0, 0⟩).n)
theorem ActsAt.keep {w w' : World} {B : Nat} {A : Option Addr} {acts : List Deed} (h : ActsAt w B A acts) (hb : Below B w w') : ActsAt w' B A acts := by
  intro i hi
  obtain ⟨b, off, e, hlt, hc, hc2⟩ := h i hi
  exact ⟨b, off, e, hlt, (hb.cell (p := ⟨b, off + i * 2, none⟩) hlt).trans hc, (hb.cell (p := ⟨b, off + i * 2 + 1, none⟩) hlt).trans hc2⟩
section
open Go.ChangeShapes Go.WideShapes Go.Deep
variable {H : Type} {enc : TypeId × Value → H} {w : World} {base : Nat} {held : Bool}
set_option maxRecDepth 100000 in
theorem open_deed {n : Nat} {cs : List Value} {x : DataW H × List MemPlace} (h : DataW.trod enc Try.prog w base (fun _ => true) held n 33 cs = some x) : ∃ y : Deed, (inI64 y.kind ∧ inI64 y.n) ∧ cs = [.int .i64 y.kind, .int .i64 y.n] := by
  obtain ⟨xs, n', _, _, hlen, hxl, hf⟩ := DataW.trod_struct Try.underlying33 h
  have e5 : Try.prog.cellsOf 33 = 2 := by kernel_rfl
  rw [e5] at hlen
  have k3 : Try.prog.cellsOf 3 = 1 := by kernel_rfl
  match cs, hlen with
  | [a0, a1], _ =>
    match xs, hxl with
    | [y0, y1], _ =>
      have f0 : DataW.trod enc Try.prog w base (fun _ => true) held n' 3 [a0] = some y0 := by have := hf 0 _ rfl; simpa [k3] using this
      have f1 : DataW.trod enc Try.prog w base (fun _ => true) held n' 3 [a1] = some y1 := by have := hf 1 _ rfl; simpa [k3] using this
      obtain ⟨i0, e0, _, w0⟩ := DataW.trod_int Try.underlying3 f0
      obtain ⟨i1, e1, _, w1⟩ := DataW.trod_int Try.underlying3 f1
      simp at e0 e1
      subst e0 e1
      exact ⟨⟨i0, i1⟩, ⟨wf_i64 w0, wf_i64 w1⟩, rfl⟩
theorem open_acts {fuel : Nat} {a : Option Addr} {len cap : Nat} {x : DataW H × List MemPlace} (h : DataW.trod enc Try.prog w base (fun _ => true) held fuel 22 [.slice a len cap] = some x) :
    len ≤ maxLen ∧ ∃ acts : List Deed, acts.length = len ∧ (∀ y ∈ acts, inI64 y.kind ∧ inI64 y.n) ∧ ActsAt w w.heap.size a acts := by
  rcases open_slice Try.underlying22 h with ⟨h0, _⟩ | ⟨ad, l, c, m, n, D, Pl, hcs, hb, hl, hm, hmm, hx, hi⟩
  · simp at h0
    obtain ⟨rfl, rfl, rfl⟩ := h0
    exact ⟨Nat.zero_le _, [], rfl, by simp, fun i hi => absurd hi (by simp)⟩
  · simp at hcs
    obtain ⟨rfl, rfl, rfl⟩ := hcs
    have e5 : Try.prog.cellsOf 33 = 2 := by kernel_rfl
    rw [e5] at hi
    simp only [if_true] at hmm
    subst hmm
    have hall : ∀ i, i < len → ∃ y : Deed, (inI64 y.kind ∧ inI64 y.n) ∧ ∀ j v, [Value.int .i64 y.kind, .int .i64 y.n][j]? = some v → w.cell? ((ad.add (i * 2)).add j) = some v := by
      intro i hil
      obtain ⟨cs', hc, ht⟩ := hi i (by omega)
      obtain ⟨y, hy, rfl⟩ := open_deed ht
      obtain ⟨_, _, hat⟩ := World.cells?_some hc
      refine ⟨y, hy, fun j v hj => ?_⟩
      have hj5 : j < 2 := by have := (List.getElem?_eq_some_iff.1 hj).1; simpa using this
      rw [hat j hj5]; exact hj
    refine ⟨by omega, (List.range len).map fun i => if h : i < len then (hall i h).choose else ⟨0, 0⟩, by simp, ?_, ?_⟩
    · intro y hy
      simp only [List.mem_map, List.mem_range] at hy
      obtain ⟨i, hil, rfl⟩ := hy
      rw [dif_pos hil]
      exact (hall i hil).choose_spec.1
    · intro i hil
      have hil : i < len := by simpa using hil
      have hg : ((List.range len).map fun i => if h : i < len then (hall i h).choose else ⟨0, 0⟩).getD i ⟨0, 0⟩ = (hall i hil).choose := by
        simp [hil]
      rw [hg]
      have hc := (hall i hil).choose_spec.2
      have hz := (hall 0 (by omega)).choose_spec.2 0 _ rfl
      have hspot : ad.spot = none := by
        have h0 : (ad.add (0 * 2)).add 0 = ad := by simp [Addr.add]
        rw [h0] at hz
        exact World.cell?_spot hz
      have hblk : ad.block < w.heap.size := by
        have := World.block_lt_of_cell? w _ hz
        simpa [Addr.add] using this
      obtain ⟨b, off, sp⟩ := ad
      simp only at hspot hblk
      subst hspot
      have e : ∀ j, ((⟨b, off, none⟩ : Addr).add (i * 2)).add j = ⟨b, off + i * 2 + j, none⟩ := by
        intro j
        unfold Addr.add
        by_cases h1 : i * 2 = 0 <;> by_cases h2 : j = 0 <;> simp [h1, h2]
      refine ⟨b, off, rfl, hblk, ?_⟩
      exact ⟨(congrArg w.cell? (e 0)).symm.trans (hc 0 _ rfl), (congrArg w.cell? (e 1)).symm.trans (hc 1 _ rfl)⟩
end
end Go.Proofs.Ytenajaiedoigpaa
