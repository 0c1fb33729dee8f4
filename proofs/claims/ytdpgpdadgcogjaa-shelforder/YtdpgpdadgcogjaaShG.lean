/- The contracts of samePair and slices.EqualFunc. -/
import Derived.Test.YtdpgpdadgcogjaaShD
namespace Go.Proofs.Ytdpgpdadgcogjaa
open Go.RowKit Go.Lib Plain
set_option linter.unusedVariables false

section
variable {w w' : World} {v u : Value} {l : List KV} {room : Nat}
set_option maxRecDepth 100000 in
set_option maxHeartbeats 1600000 in
theorem same_any {p q : Nat} {x y : KV} (hp : PAt w p x) (hq : PAt w q y) : Calls Try.prog 36 #[ptr p, ptr q] w fun e w' => e = .returned (.bool (decide (x = y))) ∧ Below w.heap.size w w' := by
  have c0 := hp.c0; have c1 := hp.c1; have d0 := hq.c0; have d1 := hq.c1
  have CC := Lib.hid (fun n => compare_any x.1 y.1 (w.drewN n))
  have HB0 := Lib.hid (Below.refl w.heap.size w)
  by_cases hk : x.1 = y.1
  · rw [show side x.1 y.1 = 0 by rw [hk]; exact side_eq _] at CC
    have hd : decide (x = y) = (x.2 == y.2) := by
      by_cases h2 : x.2 = y.2
      · rw [decide_eq_true (Prod.ext hk h2), h2, beq_self_eq_true]
      · rw [decide_eq_false (fun e => h2 (by rw [e])), beq_eq_false_iff_ne.2 h2]
    rw [hd]
    clear hp hq hk hd
    go_enter Try.func36, Try.ntmps36
    go_wp2_with fail
    go_quiet ((go_at_call 37; (with_reducible exact quietR (CC.out _))))
    go_wp2_with fail
    go_ret
    exact ⟨rfl, below_drewN HB0.out _⟩
  · have hs : ∃ s : Int, side x.1 y.1 = s ∧ (s == 0) = false := by
      rcases side_cases x.1 y.1 with ⟨_, e⟩ | ⟨h, _⟩ | ⟨_, e⟩
      · exact ⟨-1, e, rfl⟩
      · exact absurd h hk
      · exact ⟨1, e, rfl⟩
    obtain ⟨s, hs, h0⟩ := hs
    rw [hs] at CC
    have hd : decide (x = y) = false := decide_eq_false (fun e => hk (by rw [e]))
    rw [hd]
    clear hp hq hk hd hs
    go_enter Try.func36, Try.ntmps36
    go_wp2_with fail
    go_quiet ((go_at_call 37; (with_reducible exact quietR (CC.out _))))
    go_wp2_with fail
    go_ret
    exact ⟨rfl, below_drewN HB0.out _⟩
/-- all the same so far -/
def sameTo (xs ys : List KV) (j : Nat) : Prop := ∀ i, i < j → xs[i]? = ys[i]?
set_option maxRecDepth 100000 in
set_option maxHeartbeats 1600000 in
theorem eqf_any {ps qs : List (Nat × KV)} (hu : Rd eP w u (ps.map (·.1))) (hv : Rd eP w v (qs.map (·.1))) (hp : ∀ y ∈ ps, PAt w y.1 y.2) (hq : ∀ y ∈ qs, PAt w y.1 y.2) (hn : ps.length ≤ 70000) (hn2 : qs.length ≤ 70000) :
    Calls Try.prog 35 #[u, v, .func (.func 36) #[] #[]] w fun e w' => e = .returned (.bool (decide (ps.map (·.2) = qs.map (·.2)))) ∧ Below w.heap.size w w' := by
  obtain ⟨O, cu, rfl, hcu, _⟩ := id hu
  obtain ⟨Q, cv, rfl, hcv, _⟩ := id hv
  rw [List.length_map] at hu hv hcu hcv ⊢
  rw [List.length_map]
  by_cases hl : ps.length = qs.length
  · have HU := Lib.hid hu; have HV := Lib.hid hv; have HP := Lib.hid hp; have HQ := Lib.hid hq; have HL := Lib.hid hl; have HN := Lib.hid hn
    clear hu hv hp hq hcu hcv hn hn2
    rw [hl]
    obtain ⟨n, hnn⟩ : ∃ n, qs.length = n := ⟨_, rfl⟩
    rw [hl, hnn] at HN; rw [hl, hnn] at HU; rw [hnn] at HV; rw [hnn] at HL
    rw [hnn]
    have HNN := Lib.hid hnn
    clear hl hnn
    go_enter Try.func35, Try.ntmps35
    go_wp2_with fail
    go_loopg [17] n (fun gh s17 wx => ∃ j : Nat, j ≤ n ∧ gh = n - j ∧ s17 = .int .i64 (j : Int) ∧ Below w.heap.size w wx ∧ sameTo (ps.map (·.2)) (qs.map (·.2)) j)
    case atStart => exact ⟨0, Nat.zero_le _, rfl, rfl, Below.refl _ _, fun i hi => absurd hi (by omega)⟩
    case round =>
      obtain ⟨j, hj, hg, rfl, hb, hsm⟩ := hrel
      have HG := Lib.hid hg; have HB := Lib.hid hb; have HS := Lib.hid hsm; clear hg hb hsm
      by_cases hlt : j < n
      · have h1 : j < ps.length := by rw [HL.out]; exact hlt
        have h2 : j < qs.length := by rw [HNN.out]; exact hlt
        have e1 : ps[j]? = some ps[j] := List.getElem?_eq_getElem h1
        have e2 : qs[j]? = some qs[j] := List.getElem?_eq_getElem h2
        obtain ⟨b1, o1, rfl, l1, k1⟩ := HU.out.cellP (i := j) (p := ps[j].1) (by rw [List.getElem?_map, e1]; rfl)
        obtain ⟨b2, o2, rfl, l2, k2⟩ := HV.out.cellP (i := j) (p := qs[j].1) (by rw [List.getElem?_map, e2]; rfl)
        have m1 : wr.cell? ⟨b1, o1 + j, none⟩ = some (ptr ps[j].1) := by rw [HB.out.cell (p := ⟨b1, o1 + j, none⟩) l1]; exact k1
        have m2 : wr.cell? ⟨b2, o2 + j, none⟩ = some (ptr qs[j].1) := by rw [HB.out.cell (p := ⟨b2, o2 + j, none⟩) l2]; exact k2
        have CS := Lib.hid (same_any ((HP.out _ (List.getElem_mem h1)).step HB.out) ((HQ.out _ (List.getElem_mem h2)).step HB.out))
        have f1 : (ps.map (·.2))[j]? = some ps[j].2 := by rw [List.getElem?_map, e1]; rfl
        have f2 : (qs.map (·.2))[j]? = some qs[j].2 := by rw [List.getElem?_map, e2]; rfl
        have F1 := Lib.hid f1; have F2 := Lib.hid f2
        generalize ps[j] = x at *
        generalize qs[j] = y at *
        clear k1 k2 l1 l2 e1 e2 f1 f2 h1 h2
        have b3 : (j : Int) < (n : Int) := by omega
        have b4 : (0 : Int) ≤ (j : Int) := by omega
        by_cases hxy : x.2 = y.2
        · rw [decide_eq_true hxy] at CS
          have HXY := Lib.hid hxy; clear hxy
          go_wp2_with (first | (go_at_call 36; (with_reducible refine CS.out.mono ?_); rintro e w4 ⟨rfl, hb4⟩))
          go_roundg (n - (j + 1))
          case measure => have := HG.out; omega
          case rel => exact ⟨j + 1, by omega, rfl, (by have := HN.out; rw [IntWalk.wrap64_in _ (by omega)]; rfl), HB.out.trans (hb4.mono HB.out.size), fun i hi => by
            by_cases hij : i < j
            · exact HS.out i hij
            · obtain rfl : i = j := by omega
              rw [F1.out, F2.out, HXY.out]⟩
        · rw [decide_eq_false hxy] at CS
          have HXY := Lib.hid hxy; clear hxy
          go_wp2_with (first | (go_at_call 36; (with_reducible refine CS.out.mono ?_); rintro e w4 ⟨rfl, hb4⟩))
          go_ret
          refine ⟨?_, HB.out.trans (hb4.mono HB.out.size)⟩
          rw [decide_eq_false (fun e => HXY.out (by have h := F1.out; rw [e, F2.out] at h; injection h with h; exact h.symm))]
          rfl
      · obtain rfl : j = n := by omega
        go_wp2_with fail
        go_ret
        refine ⟨?_, HB.out⟩
        have : ps.map (·.2) = qs.map (·.2) := by
          apply List.ext_getElem?
          intro i
          by_cases hi : i < j
          · exact HS.out i hi
          · rw [List.getElem?_eq_none (by rw [List.length_map, HL.out]; omega), List.getElem?_eq_none (by rw [List.length_map, HNN.out]; omega)]
        rw [decide_eq_true this]
        rfl
  · have hd : decide (ps.map (·.2) = qs.map (·.2)) = false := decide_eq_false (fun e => hl (by have := congrArg List.length e; simpa using this))
    rw [hd]
    have f0 : ¬ (ps.length : Int) = (qs.length : Int) := by omega
    clear hu hv hp hq hl hd
    go_enter Try.func35, Try.ntmps35
    go_wp2_with fail
    go_ret
    exact ⟨rfl, Below.refl _ _⟩
end
end Go.Proofs.Ytdpgpdadgcogjaa
