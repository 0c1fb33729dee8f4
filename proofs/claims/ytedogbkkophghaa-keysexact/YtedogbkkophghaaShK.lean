/- The contract of Keep, of what counts. -/
import Derived.Test.YtedogbkkophghaaShD
namespace Go.Proofs.Ytedogbkkophghaa.Sh
open Go.RowKit Go.Lib Plain
set_option linter.unusedVariables false

/-- whether an entry counts, at a tick -/
def alive (now : Int) (x : E) : Bool := decide (now ≤ x.last)
section
variable {w w' : World} {v : Value} {l : List KV} {room : Nat}
set_option maxHeartbeats 400000 in
theorem count1_any {now : Int} {g : Nat} {x : E} {k : ByteArray} (hg : At w g 3 #[.int .i64 now]) : Calls Try.prog 40 #[.string k, .agg #[.int .i64 x.last, .string x.body, .string x.ans], ptr g] w fun e w' => e = .returned (.bool (alive now x)) ∧ Below w.heap.size w w' := by
  have hw := hg.alloc (.cells #[.int .i64 x.last, .string x.body, .string x.ans] 65)
  have k0 : (w.alloc (.cells #[.int .i64 x.last, .string x.body, .string x.ans] 65)).cell? ⟨g, 0, none⟩ = some (.int .i64 now) := by rw [hw.cell]; rfl
  have hb : Below w.heap.size w (w.alloc (.cells #[.int .i64 x.last, .string x.body, .string x.ans] 65)) := (Below.refl _ _).alloc (Nat.le_refl _) _
  have HB := Lib.hid hb
  have HR := Lib.hid (show alive now x = decide (now ≤ x.last) from rfl)
  clear hg hw hb
  go_enter Try.func40, Try.ntmps40
  go_wp2
  go_ret
  exact ⟨by rw [HR.out]; rfl, HB.out⟩
set_option maxRecDepth 100000 in
set_option maxHeartbeats 3200000 in
/-- Keep: some of the pairs -/
theorem keep_alive {now : Int} {gn : Nat} (hgn : At w gn 3 #[.int .i64 now]) (h : SAt w v l room) :
    Calls Try.prog 39 #[v, fkeep gn] w (SPost w (l.filter (fun x => alive now x.2)) room) := by
  have ci : ∀ W, Below w.heap.size w W → ∀ (k : ByteArray) (x : E), Calls Try.prog 40 #[.string k, .agg #[.int .i64 x.last, .string x.body, .string x.ans], ptr gn] W fun e w' => e = .returned (.bool (alive now x)) ∧ Below W.heap.size W w' := fun W hW k x => count1_any (At.below hgn hW (At.lt hgn))
  generalize alive now = q at *
  have hmf : ∀ (fn : Fn) (first cap : Array Value) (w : World), (Instr.makeFunc fn first cap).run Try.prog w = .ok (.func fn first cap) w := fun _ _ _ _ => rfl
  obtain ⟨vt, t, rfl, ht, rfl, hr, h1, h2⟩ := h
  obtain ⟨o, rfl⟩ := ht.ptr
  have hfe := run_eql_func Try.underlying101 (.func 40) #[] #[ptr gn]
  have hb : Below w.heap.size w (delW w o t.kvs.length room) := ((Below.refl _ _).alloc (Nat.le_refl _) _).alloc (by simp) _
  have CP := Lib.hid (pairs_any (room := (room : Int)) (ht.step hb) (by omega))
  have HPA := Lib.hid (fun y (hy : y ∈ t.its) => (ht.its_at y hy).2)
  have HB := Lib.hid hb
  have CI := Lib.hid ci
  have hle : t.its.length ≤ 70000 := by have := t.kvs_length; omega
  have HLE := Lib.hid hle
  have HFIN := Lib.hid (And.intro (show Rise (t.kvs.filter (fun x => q x.2)) from hr.filter _) (show (t.kvs.filter (fun x => q x.2)).length ≤ room ∧ room ≤ 65536 from ⟨Nat.le_trans (List.length_filter_le ..) h1, h2⟩))
  have HKV := Lib.hid (show (kept q t.its).map (·.2) = t.kvs.filter (fun x => q x.2) from kept_kvs q t.its)
  generalize t.kvs.filter (fun x => q x.2) = kk at *
  clear ht hr hle h1 h2 hb ci hgn
  unfold fkeep
  generalize t.kvs.length = N at *
  generalize t.its = ps at *
  go_enter_defers Try.func39, Try.ntmps39
  go_wp2_with fail
  refine CP.out.mono ?_
  rintro e w0 ⟨sv, rfl, o1, b1⟩
  have hs : w0.heap.size ≥ w.heap.size + 2 := by have := b1.size; simpa using this
  have a1 : At w0 w.heap.size 29 #[.pointer o, .int .i64 (N : Int), .int .i64 (room : Int)] := At.below ((At.new w 29 _).alloc _) b1 (by simp; omega)
  have a2 : At w0 (w.heap.size + 1) 29 #[.pointer none, .int .i64 0, .int .i64 0] := by
    have := (At.new (w.alloc (.cells #[.pointer o, .int .i64 (N : Int), .int .i64 (room : Int)] 29)) 29 #[.pointer none, .int .i64 0, .int .i64 0])
    have e : (w.alloc (.cells #[.pointer o, .int .i64 (N : Int), .int .i64 (room : Int)] 29)).heap.size = w.heap.size + 1 := by simp
    rw [e] at this
    exact this.below b1 (by simp)
  have hb0 : Below w.heap.size w w0 := HB.out.trans (b1.mono (by simp; omega))
  have hpa : ∀ y ∈ ps, PAt w0 y.1 y.2 := fun y hy => (HPA.out y hy).step hb0
  have O1 := Lib.hid o1; have A1 := Lib.hid a1; have A2 := Lib.hid a2; have HB0 := Lib.hid hb0; have HPA0 := Lib.hid hpa
  obtain ⟨O, cap, rfl⟩ := own_slice o1
  rw [List.length_map]
  clear o1 b1 a1 a2 hb0 hpa HPA CP HB
  obtain ⟨n, hn⟩ : ∃ n, n = ps.length := ⟨_, rfl⟩
  rw [← hn]
  have HNN := Lib.hid hn; clear hn
  go_wp2_with fail
  go_loopg [15, 5] n (fun gh s15 s5 wx => ∃ (j : Nat) (rv : Value), j ≤ n ∧ gh = n - j ∧ s15 = .int .i64 (j : Int) ∧ rv = s5 ∧ KSt w0 wx rv ((kept q (ps.take j)).map (·.1)))
  case atStart => exact ⟨0, _, Nat.zero_le _, rfl, rfl, rfl, ⟨Own.nil _ _ _, Below.refl _ _⟩⟩
  case round =>
    obtain ⟨j, rv, hj, hg, rfl, rfl, hst⟩ := hrel
    have HG := Lib.hid hg; have HST := Lib.hid hst; clear hg hst
    by_cases hlt : j < n
    · obtain ⟨g, cap', hsv, hgl, k0⟩ := row_cell (j := j) O1.out (by rw [← HNN.out]; exact hlt)
      rw [← HNN.out] at hsv
      injection hsv with e1 _ e3
      subst e1; subst e3
      have hjj : j < ps.length := by rw [← HNN.out]; exact hlt
      have hpx : ps[j]? = some ps[j] := List.getElem?_eq_getElem hjj
      have kx : PAt wr ps[j].1 ps[j].2 := (HPA0.out _ (List.getElem_mem hjj)).step HST.out.bel
      have k1 : wr.cell? ⟨g, j, none⟩ = some (ptr ps[j].1) := by rw [HST.out.bel.cell (p := ⟨g, j, none⟩) hgl]; exact k0
      clear k0
      have hkt := kept_take (q := q) hpx
      generalize ps[j] = y at *
      have q0 := kx.c0; obtain ⟨q1, q2, q3⟩ := kx.all
      have HS := Lib.hid (fun W (hb : Below wr.heap.size wr W) => And.intro (kx.keep hb kx.lt).c0 (kx.keep hb kx.lt).all)
      have HKT := Lib.hid hkt
      have b3 : (j : Int) < (n : Int) := by omega
      have b4 : (0 : Int) ≤ (j : Int) := by omega
      have CI2 := Lib.hid (fun W (hW : Below wr.heap.size wr W) => CI.out W ((HB0.out.trans (HST.out.bel.mono HB0.out.size)).trans (hW.mono (HB0.out.trans (HST.out.bel.mono HB0.out.size)).size)) y.2.1 y.2.2)
      have BD := Lib.hid ((Below.refl wr.heap.size wr).drew)
      clear kx hpx hkt hgl
      cases hq : q y.2.2
      · rw [hq] at CI2
        have HQ := Lib.hid hq; clear hq
        go_wp2_with fail
        go_region_held3 (fun w' => (w'.cell? ⟨y.1, 0, none⟩ = some (.string y.2.1) ∧ w'.cell? ⟨y.1, 1, none⟩ = some (.int .i64 y.2.2.last) ∧ w'.cell? ⟨y.1, 2, none⟩ = some (.string y.2.2.body) ∧ w'.cell? ⟨y.1, 3, none⟩ = some (.string y.2.2.ans)))
          (first | exact HS.out _ BD.out | exact HS.out _ (by assumption) | fail)
          (first | (go_at_call 40; (with_reducible refine (CI2.out _ BD.out).mono ?_); rintro e w4 ⟨rfl, hb4⟩; have b4w : Below wr.heap.size wr w4 := BD.out.trans (hb4.mono BD.out.size)) | fail)
        all_goals go_wp2_with fail
        go_roundg (n - (j + 1))
        case measure => have := HG.out; omega
        case rel => exact ⟨j + 1, _, by omega, rfl, (by have := HLE.out; have := HNN.out; rw [IntWalk.wrap64_in _ (by omega)]; rfl), rfl, by rw [HKT.out, if_neg (by rw [HQ.out]; decide)]; exact HST.out.below b4w⟩
      · rw [hq] at CI2
        have HQ := Lib.hid hq; clear hq
        go_wp2_with fail
        go_region_held3 (fun w' => (w'.cell? ⟨y.1, 0, none⟩ = some (.string y.2.1) ∧ w'.cell? ⟨y.1, 1, none⟩ = some (.int .i64 y.2.2.last) ∧ w'.cell? ⟨y.1, 2, none⟩ = some (.string y.2.2.body) ∧ w'.cell? ⟨y.1, 3, none⟩ = some (.string y.2.2.ans)))
          (first | exact HS.out _ BD.out | exact HS.out _ (by assumption) | fail)
          (first | (go_at_call 40; (with_reducible refine (CI2.out _ BD.out).mono ?_); rintro e w4 ⟨rfl, hb4⟩; have b4w : Below wr.heap.size wr w4 := BD.out.trans (hb4.mono BD.out.size)) | fail)
        obtain ⟨rv', w5, hr5, hst5⟩ := (HST.out.below b4w).push y.1 (by
          rw [List.length_map]
          have h1 : (kept q (ps.take j)).length ≤ (ps.take j).length := List.length_filter_le ..
          rw [List.length_take] at h1
          have := HLE.out; omega) 104
        have HR := Lib.hid hr5; have HST5 := Lib.hid hst5; clear hr5 hst5
        go_wp2_with (at_builtin; (refine Lib.wpList_append_run _ rfl (.tmp 29) (.tmp 31) 104 104 rfl _ _ rfl rfl rv' w5 HR.out ?_))
        go_roundg (n - (j + 1))
        case measure => have := HG.out; omega
        case rel => exact ⟨j + 1, _, by omega, rfl, (by have := HLE.out; have := HNN.out; rw [IntWalk.wrap64_in _ (by omega)]; rfl), rfl, by rw [HKT.out, if_pos HQ.out, List.map_append]; exact HST5.out⟩
    · obtain rfl : j = n := by omega
      have htk : ps.take j = ps := by rw [HNN.out, List.take_length]
      have hst := HST.out
      rw [htk] at hst
      clear htk HST
      obtain ⟨O2, cap2, rfl⟩ := own_slice hst.own
      rw [List.length_map]
      have hrd := hst.own.rd
      rw [List.length_map] at hrd
      have hpk : ∀ y ∈ kept q ps, PAt wr y.1 y.2 := fun y hy => (HPA0.out _ ((List.mem_filter.1 hy).1)).step hst.bel
      have hkl : (kept q ps).length ≤ 70000 := Nat.le_trans (List.length_filter_le ..) HLE.out
      have hlk : (kept q ps).length = kk.length := by rw [← HKV.out, List.length_map]
      have CPL := Lib.hid (planted_any _ rfl hkl (hrd.below (Below.refl _ _).drew) (fun y hy => (hpk y hy).step (Below.refl _ _).drew))
      have b1 := A1.out.below hst.bel A1.out.lt
      have b2 := A2.out.below hst.bel A2.out.lt
      have c2 : wr.cell? ⟨w.heap.size, 2, none⟩ = some (.int .i64 (room : Int)) := by rw [b1.cell]; rfl
      have HBW := Lib.hid (HB0.out.trans (hst.bel.mono HB0.out.size))
      have HB1 := Lib.hid b1; have HB2 := Lib.hid b2; have HLK := Lib.hid hlk
      obtain ⟨K, hK⟩ : ∃ K, kk.length = K := ⟨_, rfl⟩
      rw [hlk, hK] at CPL ⊢
      have HK := Lib.hid hK; clear hK
      clear hst hrd hpk hkl b1 b2 hlk
      generalize (kept q ps).map (·.2) = kk2 at *
      go_wp2_with fail
      have S0 : wr.drew.cell? ⟨w.heap.size, 2, none⟩ = some (.int .i64 (room : Int)) := c2
      go_region_held3 (fun w' => (w'.cell? ⟨w.heap.size, 2, none⟩ = some (.int .i64 (room : Int))))
        (first | exact S0 | exact S5 | go_keep | fail)
        (first
          | (go_at_call 68; (with_reducible refine CPL.out.mono ?_); rintro e w5 ⟨v5, t5, rfl, T5, k5, b5⟩; obtain ⟨o5, rfl⟩ := T5.ptr; have A5 := HB2.out.drew.below b5 HB2.out.lt; have S5 : w5.cell? ⟨w.heap.size, 2, none⟩ = some (.int .i64 (room : Int)) := (by rw [(HB1.out.drew.below b5 HB1.out.lt).cell]; rfl); have d0 : w5.cell? ⟨w.heap.size + 1, 0, none⟩ = some (.pointer none) := (by rw [A5.cell]; rfl); have d1 : w5.cell? ⟨w.heap.size + 1, 1, none⟩ = some (.int .i64 0) := (by rw [A5.cell]; rfl); have d2 : w5.cell? ⟨w.heap.size + 1, 2, none⟩ = some (.int .i64 0) := (by rw [A5.cell]; rfl); have y0 := A5.frozen 0; have y1 := A5.frozen 1; have y2 := A5.frozen 2; have T5' := Lib.hid T5; have HA5 := Lib.hid A5; have B5 := Lib.hid (HBW.out.drew.trans (b5.mono HBW.out.drew.size)); clear T5 A5 b5)
          | fail)
      go_wp2_with fail
      have hfin := T5'.out.store3 (x := .pointer o5) (y := .int .i64 (K : Int)) (z := .int .i64 (room : Int)) HA5.out (by decide) (by decide)
      have hat := HA5.out.store3 (x := .pointer o5) (y := .int .i64 (K : Int)) (z := .int .i64 (room : Int))
      have hbf : Below w.heap.size w (((w5.setCell ⟨w.heap.size + 1, 0, none⟩ (.pointer o5)).setCell ⟨w.heap.size + 1, 1, none⟩ (.int .i64 (K : Int))).setCell ⟨w.heap.size + 1, 2, none⟩ (.int .i64 (room : Int))) := ((B5.out.setCell (by simp) _).setCell (by simp) _).setCell (by simp) _
      have f0 := hat.cell 0; have f1 := hat.cell 1; have f2 := hat.cell 2
      have hsz : (((w5.setCell ⟨w.heap.size + 1, 0, none⟩ (.pointer o5)).setCell ⟨w.heap.size + 1, 1, none⟩ (.int .i64 (K : Int))).setCell ⟨w.heap.size + 1, 2, none⟩ (.int .i64 (room : Int))).heap.size = w5.heap.size := by simp only [size_set]
      have HF := Lib.hid hfin; have HBF := Lib.hid hbf; have HSZ := Lib.hid hsz
      clear hfin hat hbf hsz d0 d1 d2 y0 y1 y2 S5 HA5 B5 T5'
      generalize ((w5.setCell ⟨w.heap.size + 1, 0, none⟩ (.pointer o5)).setCell ⟨w.heap.size + 1, 1, none⟩ (.int .i64 (K : Int))).setCell ⟨w.heap.size + 1, 2, none⟩ (.int .i64 (room : Int)) = w6 at *
      refine leaves_cons (f := 67) (args := #[ptr w.heap.size, ptr (w.heap.size + 1)]) (by simp) (by simp [go_sem]) ?_
      refine (keep1_idle w.heap.size (w.heap.size + 1) _).mono ?_
      rintro e u' w8 ⟨rfl, rfl, rfl⟩
      simp only [Leaves, settle, results, Try.results39]
      simp at f0 f1 f2
      simp [go_sem, f0, f1, f2]
      exact ⟨_, rfl, ⟨_, t5, by rw [HK.out], by rw [HSZ.out]; exact HF.out, by rw [k5, HKV.out], HFIN.out.1, HFIN.out.2.1, HFIN.out.2.2⟩, HBF.out⟩
end
end Go.Proofs.Ytedogbkkophghaa.Sh
