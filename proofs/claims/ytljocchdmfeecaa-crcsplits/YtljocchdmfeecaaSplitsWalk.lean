/- The walk of the statement CrcSplits: its loop over the cuts, and its last line. -/
import Derived.Test.YtljocchdmfeecaaWalkD
import Derived.OpenShut
import Derived.Deep.Cut
namespace Go.Proofs.Ytljocchdmfeecaa
open Go.RowKit Go.Lib Plain
theorem Try.info9 : (Try.prog.info? 9).map (fun i => (i.zero, i.size, i.bytes)) = some (some (.string ByteArray.empty), 1, 16) := by kernel_rfl

theorem join_list (l : List UInt8) (b : ByteArray) (w : World) (n : Int) (hn : n = (b.size : Int)) (h : b.size < 9223372036854775808) :
    Calls Try.prog 13 #[.int .u32 (N (crc l)), .int .u32 (N (crc b.data.toList)), .int .i64 n] w fun e w' => e = .returned (.int .u32 (N (crc (l ++ b.data.toList)))) ∧ w = w' := by
  subst hn
  by_cases h0 : b.size < 1
  · have e : b.data.toList = [] := by
      apply List.eq_nil_of_length_eq_zero
      have : b.data.toList.length = b.size := by simp
      omega
    rw [e, List.append_nil]
    exact join_none _ _ _ _ _ w rfl rfl (by omega)
  · rw [crc_join]
    have : b.data.toList.length = b.size := by simp
    rw [this]
    exact join_some _ _ b.size _ _ w rfl rfl (by omega) h

def strV (l : List ByteArray) : List Value := l.map Value.string

theorem modN (z : Int) (r : Nat) (hr : r ≤ 4096) : ∃ n : Nat, n ≤ r ∧ wrap64 ((IntKind.u64.wrap z).tmod ((r : Int) + 1)) = (n : Int) := by
  have h0 : 0 ≤ IntKind.u64.wrap z := wrap_u64_nonneg z
  rw [Int.tmod_eq_emod_of_nonneg h0]
  have a1 := Int.emod_nonneg (IntKind.u64.wrap z) (show (r : Int) + 1 ≠ 0 by omega)
  have a2 := Int.emod_lt_of_pos (IntKind.u64.wrap z) (show (0 : Int) < (r : Int) + 1 by omega)
  generalize IntKind.u64.wrap z % ((r : Int) + 1) = m at a1 a2
  exact ⟨m.toNat, by omega, by unfold wrap64; omega⟩
theorem cut_two (r : ByteArray) (n : Nat) : r.data.toList = (r.extract 0 n).data.toList ++ (r.extract n r.size).data.toList := by
  have e1 : (r.extract 0 n).data.toList = r.data.toList.take n := by simp
  have e2 : (r.extract n r.size).data.toList = r.data.toList.drop n := by
    simp
    exact List.take_of_length_le (by simp)
  rw [e1, e2, List.take_append_drop]
structure Cut (w wx : World) (B : Nat) (s : ByteArray) (v : Value) (done : List ByteArray) (rest : ByteArray) : Prop where
  own : wx.ownsRow B 9 1 v done.length (strV done)
  below : Below w.heap.size w wx
  le : w.heap.size ≤ B
  le2 : B ≤ wx.heap.size
  all : flat done ++ rest.data.toList = s.data.toList
  sizes : ∀ t ∈ done, t.size ≤ 4096
  small : rest.size ≤ 4096
theorem zs_wf {zs : List Int} (h : ∀ n ∈ zs, (Lit.int .i64 n).wf = true) (j : Nat) : (Lit.int .i64 (zs.getD j 0)).wf = true := by
  by_cases hj : j < zs.length
  · exact h _ (by simp [hj])
  · simp only [List.getD, List.getElem?_eq_none (Nat.le_of_not_lt hj)]; decide

theorem own_ge {wx : World} {B n : Nat} {v : Value} {xs : List Value} (h : wx.ownsRow B 9 1 v n xs) : ∀ k, v.ownBlock = some k → B ≤ k := by
  intro k hk
  rcases h.2 with ⟨rfl, _⟩ | ⟨g, cap, cur, rfl, hb, _⟩
  · simp [Value.ownBlock] at hk
  · simp [Value.ownBlock] at hk; omega
theorem flat_one (l : List ByteArray) (p : ByteArray) : flat (l ++ [p]) = flat l ++ p.data.toList := flat_snoc l p
theorem cut_step {w wr w2 : World} {B j n : Nat} {s : ByteArray} {v v' : Value} {done : List ByteArray} {rest p q : ByteArray} (hj : j = done.length)
    (hown : wr.ownsRow B 9 1 v j (strV done)) (hbel : Below w.heap.size w wr) (hle : w.heap.size ≤ B) (hle2 : B ≤ wr.heap.size)
    (hall : flat done ++ rest.data.toList = s.data.toList) (hsz : ∀ t ∈ done, t.size ≤ 4096) (hpq : rest.data.toList = p.data.toList ++ q.data.toList) (hps : p.size = n) (hn : n ≤ rest.size)
    (hqs : q.size ≤ 4096) (hs : s.size ≤ 4096) (hown' : w2.ownsRow B 9 1 v' (j + 1) (strV done ++ [.string p])) (hgrow : (wr.alloc (.cells #[.string p] 9)).grownBy w2 v.ownBlock) :
    Cut w (w2.alloc (.cells #[.string p] 9)) B s v' (done ++ [p]) q := by
  have hbe := hbel.alloc (Nat.le_trans hle hle2) (.cells #[.string p] 9)
  have hb2 := hbe.grown hgrow (by simp; omega) (fun k hk => Nat.le_trans hle (own_ge hown k hk))
  have hsize := hgrow.size
  simp at hsize
  have hps' : p.size ≤ 4096 := by
    have e1 : (flat done ++ rest.data.toList).length = s.size := by rw [hall]; simp
    have e2 : rest.data.toList.length = rest.size := by simp
    rw [List.length_append, e2] at e1
    omega
  refine ⟨?_, hb2.alloc (by omega) _, hle, by simp; omega, ?_, ?_, hqs⟩
  · have e : strV done ++ [.string p] = strV (done ++ [p]) := by simp [strV]
    rw [e] at hown'
    have e2 : j + 1 = (done ++ [p]).length := by simp [hj]
    rw [e2] at hown'
    exact hown'.alloc _
  · rw [flat_one, List.append_assoc, ← hpq, hall]
  · intro t ht
    rcases List.mem_append.mp ht with h | h
    · exact hsz t h
    · simp at h; subst h; exact hps'

theorem own_form {w2 : World} {B j : Nat} {v' : Value} {done : List ByteArray} {rest : ByteArray} (hj : j = done.length) (h : w2.ownsRow B 9 1 v' (j + 1) (strV done ++ [.string rest])) :
    ∃ g cp, v' = .slice (some ⟨g, 0, none⟩) (j + 1) cp ∧ g < w2.heap.size ∧ ∀ i, i < j + 1 → w2.cell? ⟨g, i, none⟩ = some (.string ((done ++ [rest]).getD i ByteArray.empty)) := by
  have h' := h
  rcases h.2 with ⟨_, h0⟩ | ⟨g, cap, cur, rfl, _, hg, _⟩
  · omega
  · refine ⟨g, cap, rfl, (Array.getElem?_eq_some_iff.mp hg).1, fun i hi => ?_⟩
    rw [h'.cellAt i (by omega)]
    have e : strV done ++ [.string rest] = (done ++ [rest]).map Value.string := by simp [strV]
    have hl : i < (done ++ [rest]).length := by simp; omega
    rw [e, List.getElem?_map, List.getElem?_eq_getElem hl]
    simp only [Option.map_some, List.getD, List.getElem?_eq_getElem hl, Option.getD_some]
theorem of_parts (done : List ByteArray) (rest s : ByteArray) (g n cp : Nat) (w2 wx : World) (hn : (done ++ [rest]).length = n)
    (hc : ∀ i, i < n → w2.cell? ⟨g, i, none⟩ = some (.string ((done ++ [rest]).getD i ByteArray.empty))) (hg : g < w2.heap.size) (hb : Below w2.heap.size w2 wx)
    (hsz : ∀ t ∈ done, t.size ≤ 4096) (hr : rest.size ≤ 4096) (hall : flat done ++ rest.data.toList = s.data.toList) (hl : n < 9223372036854775807) :
    Calls Try.prog 9 #[.slice (some ⟨g, 0, none⟩) n cp] wx fun e w' => e = .returned (.int .u32 (N (crc s.data.toList))) ∧ wx = w' := by
  subst hn
  have := of_list (done ++ [rest]) g 0 cp wx (fun i hi => by rw [hb.cell (by exact hg), Nat.zero_add]; exact hc i hi)
    (fun t ht => by
      rcases List.mem_append.mp ht with h | h
      · have := hsz t h; unfold maxLen; omega
      · simp at h; subst h; unfold maxLen; omega) hl
  rw [flat_one, hall] at this
  exact this

set_option maxHeartbeats 1000000 in
theorem splits_walk (s : ByteArray) (ao : Option Addr) (len cap : Nat) (zs : List Int) (w : World) (h0 : s.size ≤ 4096) (h1 : len ≤ 20)
    (hc : ∀ i, i < len → ∃ b off, ao = some ⟨b, off, none⟩ ∧ b < w.heap.size ∧ w.cell? ⟨b, off + i, none⟩ = some (.int .i64 (zs.getD i 0)))
    (hwz : ∀ n ∈ zs, (Lit.int .i64 n).wf = true) :
    Calls Try.prog 6 #[.string s, .slice ao len cap] w fun e w' => e = .returned (.bool true) ∧ Below w.heap.size w w' := by
  obtain ⟨i0, hi, hz0, hz1, hz2⟩ := info_parts Try.info9
  have g0 : decide (4096 < (s.size : Int)) = false := by simp; omega
  have g1 : decide (20 < (len : Int)) = false := by simp; omega
  have HC := Lib.hid hc; clear hc
  go_enter Try.func6, Try.ntmps6
  go_wp2_with fail
  refine (awake_below _).mono ?_
  rintro e w' ⟨rfl, hg⟩
  go_wp2
  have hcut : Cut w (w'.alloc (.cells #[] 9)) w'.heap.size s (.slice (some ⟨w'.heap.size, 0, none⟩) 0 0) [] s :=
    ⟨World.ownsRow_lit w' #[] 0 (Nat.le_refl _) (by decide) rfl, hg.alloc hg.size _, hg.size, by simp, rfl, by simp, h0⟩
  generalize w'.heap.size = B at hcut
  generalize w'.alloc (.cells #[] 9) = w1 at hcut
  clear hg
  go_loopg [5, 6, 7, 8, 9] len (fun k s5 s6 s7 s8 s9 wx => ∃ (v : Value) (done : List ByteArray) (rest : ByteArray), done.length ≤ len ∧ k = len - done.length ∧ s5 = .int .u32 (N (crc (flat done))) ∧ s6 = .int .u32 (N (crc (flat done))) ∧ s7 = v ∧ s8 = .string rest ∧ s9 = .int .i64 (done.length : Int) ∧ Cut w wx B s v done rest)
  case atStart => exact ⟨_, [], s, Nat.zero_le _, rfl, by rw [show N (crc (flat [])) = 0 from by decide], by rw [show N (crc (flat [])) = 0 from by decide], rfl, rfl, rfl, hcut⟩
  case round =>
    obtain ⟨v, done, rest, hl, hg, rfl, rfl, rfl, rfl, rfl, hr⟩ := hrel
    have HG := Lib.hid hg; clear hg hcut
    obtain ⟨j, hj⟩ : ∃ j, j = done.length := ⟨_, rfl⟩
    have HJ := Lib.hid hj
    rw [← hj] at hl ⊢
    clear hj
    have hrs := hr.small
    by_cases hlt : j < len
    · obtain ⟨b, off, hao, hb, hcell⟩ := HC.out j hlt
      subst hao
      have hcx : wr.cell? ⟨b, off + j, none⟩ = some (.int .i64 (zs.getD j 0)) := by rw [hr.below.cell (by exact hb)]; exact hcell
      have hbb := bounds_i64 (zs_wf hwz j)
      generalize zs.getD j 0 = z at hcx hcell hbb
      clear hwz hcell HC
      go_upto_region 13 with (fail)
      obtain ⟨n, hn, en⟩ := modN z rest.size hrs
      rw [en]
      clear en hcx hbb
      have hps : (rest.extract 0 n).size = n := by simp; omega
      have hqs : (rest.extract n rest.size).size ≤ 4096 := by simp; omega
      have hpq : rest.data.toList = (rest.extract 0 n).data.toList ++ (rest.extract n rest.size).data.toList := cut_two rest n
      have hown := hr.own
      have hbel := hr.below
      have hle := hr.le
      have hle2 := hr.le2
      have hall := hr.all
      have hsz := hr.sizes
      rw [← HJ.out] at hown
      have HPS := Lib.hid hps; have HPQ := Lib.hid hpq; have HALL := Lib.hid hall; have HSZ := Lib.hid hsz
      clear hps hpq hall hsz hr
      generalize hqq : rest.extract n rest.size = q at hqs HPQ
      generalize hpp : rest.extract 0 n = p at HPS HPQ
      have HPP := Lib.hid hpp
      have b1 : (0 : Int) ≤ (n : Int) := by omega
      have b2 : (n : Int) ≤ (rest.size : Int) := by omega
      go_wp2_with (at_builtin; refine wpList_append_own _ rfl _ _ 36 rfl B 9 i0 (.string ByteArray.empty) 1 16 Try.underlying36 hi hz0 hz1 hz2 rfl (by decide) _ j (strV done) rfl (hown.alloc _) ⟨wr.heap.size, 0, none⟩ 1 1 [.string p] rfl rfl ?c1 ?c2 ?c3 ?c4 ?c5 ?_)
      case c1 => intro i u hi; match i, hi with | 0, hi => simp at hi; subst hi; simp [Addr.add]
      case c2 => intro u hu; simp at hu; subst hu; rfl
      case c3 => unfold maxLen; omega
      case c4 => omega
      case c5 => simp; omega
      intro v' w2 hown' hgrow _
      have R := cut_step HJ.out hown hbel hle hle2 HALL.out HSZ.out HPQ.out HPS.out hn hqs h0 hown' hgrow
      clear hown hown' hgrow hbel
      go_wp2_with fail
      refine (more_any _ (crc (flat done)) p _ rfl (by rw [HPS.out]; unfold maxLen; omega)).mono ?_
      rintro e w3 ⟨rfl, rfl⟩
      go_wp2_with fail
      refine (of_one p _ _ (by simp [go_sem]) (by rw [HPS.out]; unfold maxLen; omega)).mono ?_
      rintro e w3 ⟨rfl, rfl⟩
      go_wp2_with fail
      refine (join_list (flat done) p _ _ (by rw [HPS.out]) (by rw [HPS.out]; omega)).mono ?_
      rintro e w3 ⟨rfl, rfl⟩
      go_wp2
      go_roundg (len - (j + 1))
      case measure => have := HG.out; have := HJ.out; omega
      case rel => exact ⟨v', done ++ [p], q, by simp [← HJ.out]; omega, by simp [← HJ.out], by rw [flat_one, crc_append], by rw [flat_one], rfl, rfl, by simp [← HJ.out], R⟩
    · have hown := hr.own
      have hbel := hr.below
      have hle := hr.le
      have hle2 := hr.le2
      have hall := hr.all
      rw [← HJ.out] at hown
      have HALL := Lib.hid hall; have HSZ := Lib.hid hr.sizes
      clear hr HG HC hall
      go_wp2_with (at_builtin; refine wpList_append_own _ rfl _ _ 36 rfl B 9 i0 (.string ByteArray.empty) 1 16 Try.underlying36 hi hz0 hz1 hz2 rfl (by decide) _ j (strV done) rfl (hown.alloc _) ⟨wr.heap.size, 0, none⟩ 1 1 [.string rest] rfl rfl ?d1 ?d2 ?d3 ?d4 ?d5 ?_)
      case d1 => intro i u hi; match i, hi with | 0, hi => simp at hi; subst hi; simp [Addr.add]
      case d2 => intro u hu; simp at hu; subst hu; rfl
      case d3 => unfold maxLen; omega
      case d4 => omega
      case d5 => simp; omega
      intro v' w2 hown' hgrow hnil
      have hbe := hbel.alloc (Nat.le_trans hle hle2) (.cells #[.string rest] 9)
      have hb2 := hbe.grown hgrow (by simp; omega) (fun k hk => Nat.le_trans hle (own_ge hown k hk))
      have hsize := hgrow.size
      simp at hsize
      obtain ⟨g, cp, hv, hlt2, hcells⟩ := own_form HJ.out hown'
      subst hv
      have HCE := Lib.hid hcells
      have HM := Lib.hid (show more (crc (flat done)) rest.data.toList = crc s.data.toList by rw [← crc_append, HALL.out])
      clear hown hown' hgrow hnil hbel hbe hcells
      go_wp2_with fail
      refine (more_any _ (crc (flat done)) rest _ rfl (by unfold maxLen; omega)).mono ?_
      rintro e w3 ⟨rfl, rfl⟩
      rw [HM.out]
      go_wp2_with fail
      refine (of_one s _ _ (by simp [go_sem]) (by unfold maxLen; omega)).mono ?_
      rintro e w3 ⟨rfl, rfl⟩
      go_wp2_with fail
      refine (of_one rest _ _ (by simp [go_sem]) (by unfold maxLen; omega)).mono ?_
      rintro e w3 ⟨rfl, rfl⟩
      go_wp2_with fail
      refine (join_list (flat done) rest _ _ rfl (by omega)).mono ?_
      rintro e w3 ⟨rfl, rfl⟩
      rw [HALL.out]
      go_wp2_with fail
      refine (of_one s _ _ (by simp [go_sem]) (by unfold maxLen; omega)).mono ?_
      rintro e w3 ⟨rfl, rfl⟩
      go_wp2_with fail
      refine (of_parts done rest s g (j + 1) cp w2 _ (by have := HJ.out; simp; omega) HCE.out hlt2 ((((Below.refl _ _).alloc (Nat.le_refl _) _).alloc (by simp) _).alloc (by simp; omega) _) HSZ.out hrs HALL.out (by omega)).mono ?_
      rintro e w3 ⟨rfl, rfl⟩
      go_wp2_with fail
      refine (of_one s _ _ (by simp [go_sem]) (by unfold maxLen; omega)).mono ?_
      rintro e w3 ⟨rfl, rfl⟩
      go_wp2
      go_ret
      exact ⟨rfl, (((hb2.alloc (by omega) _).alloc (by simp; omega) _).alloc (by simp; omega) _).alloc (by simp; omega) _⟩
end Go.Proofs.Ytljocchdmfeecaa
