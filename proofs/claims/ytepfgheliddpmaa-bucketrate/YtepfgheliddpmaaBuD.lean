/- What is taken. -/
import Derived.Test.YtepfgheliddpmaaBuC
namespace Go.Proofs.Ytepfgheliddpmaa
open Go.RowKit Go.Lib
set_option linter.unusedVariables false
set_option linter.unusedSimpArgs false

/-- the bucket behind a taking -/
def tkn (c : Cfg) (b : Bt) (now : Int) : Bt := if 0 < lev c b.tok b.last now then ⟨lev c b.tok b.last now - 1, max now b.last⟩ else b
theorem lev_in (c : Cfg) (t l now : Int) : 0 ≤ lev c t l now ∧ lev c t l now ≤ 1024 := by
  unfold lev
  by_cases h : (okB c t l && tick now) = true
  · rw [if_pos h]
    simp only [Bool.and_eq_true] at h
    have hk := okB_iff.1 h.1
    have hr := rate_in hk.1
    have hB := burst_in hk.1
    exact ⟨lv_nonneg (by omega) (by omega) hk.2.1, by have := lv_le (c.get 8) (c.get 7) t l now; omega⟩
  · rw [if_neg h]; omega

set_option maxRecDepth 100000 in
set_option maxHeartbeats 1000000 in
theorem btake_any (c : Cfg) (b : Bt) (now : Int) (w : World) : Calls Try.prog 11 #[c.V, b.V, .int .i64 now] w fun e w' => e = .returned (.tuple #[(tkn c b now).V, .bool (decide (0 < lev c b.tok b.last now))]) ∧ Below w.heap.size w w' := by
  have H := Lib.hid (new3 w c.cells b.cells #[.int .i64 0, .int .i64 0] 24 26 26)
  have HL : Hid (w.heap.size ≤ w.heap.size + 1 + 1) := Lib.hid (by omega)
  have CK := Lib.hid (fun W => blevel_any c b now W)
  have hin := lev_in c b.tok b.last now
  have htk : tkn c b now = if 0 < lev c b.tok b.last now then ⟨lev c b.tok b.last now - 1, max now b.last⟩ else b := rfl
  generalize lev c b.tok b.last now = n at *
  generalize tkn c b now = d at *
  by_cases h0 : 0 < n
  · rw [if_pos h0] at htk
    have d0 : decide (n < 1) = false := decide_eq_false (by omega)
    have e1 : IntKind.i64.wrap (n - 1) = n - 1 := i64w (by omega) (by omega)
    rcases Int.lt_trichotomy now b.last with hl | hl | hl
    · have E : Hid (Ending.returned (.tuple #[(⟨n - 1, b.last⟩ : Bt).V, .bool true]) = .returned (.tuple #[d.V, .bool (decide (0 < n))])) := Lib.hid (by rw [htk, decide_eq_true h0, show max now b.last = b.last by omega])
      have hl2 : ¬ b.last < now := by omega
      have hl3 : ¬ b.last ≤ now := by omega
      clear htk hin h0
      go_enter Try.func11, Try.ntmps11
      go_upto_region 1 with fail
      obtain ⟨W, hW⟩ : ∃ W, ((w.alloc (.cells c.cells 24)).alloc (.cells b.cells 26)).alloc (.cells #[.int .i64 0, .int .i64 0] 26) = W := ⟨_, rfl⟩
      rw [hW] at H ⊢; clear hW
      have HC : Hid (CAt W w.heap.size c) := Lib.hid H.out.2.1
      have HT : Hid (BtAt W (w.heap.size + 1) b) := Lib.hid H.out.2.2.1
      have HZ : Hid (BtAt W (w.heap.size + 1 + 1) zb) := Lib.hid H.out.2.2.2
      have HB := Lib.hid H.out.1
      clear H
      generalize w.heap.size + 1 + 1 = r at *
      generalize w.heap.size + 1 = q at *
      go_wp2_with (first | ((with_reducible apply wpList_load_cat (h := HC.out)); exact rfl; exact rfl; exact rfl) | ((with_reducible apply wpList_load_bt (h := HT.out)); exact rfl; exact rfl; exact rfl))
      refine (CK.out _).mono ?_
      rintro e w1 ⟨rfl, hb⟩
      have HZ1 := Lib.hid (HZ.out.step hb)
      have HT1 := Lib.hid (HT.out.step hb)
      have HB1 := Lib.hid (HB.out.trans (hb.mono HB.out.size))
      clear hb HC HT HZ HB CK
      have k1 := HT1.out.get1
      go_wp2_with ((with_reducible apply wpList_store_bt (c := ⟨n - 1, b.last⟩) (hq := HZ1.out)); exact rfl; exact rfl; exact rfl; exact rfl)
      exact bodyPost_ret (results_bt Try.results11 (x := ⟨n - 1, b.last⟩) rfl rfl (BtAt.setRow HZ1.out _)) rfl ⟨E.out, below_setRow HB1.out HL.out _⟩
    · have E : Hid (Ending.returned (.tuple #[(⟨n - 1, now⟩ : Bt).V, .bool true]) = .returned (.tuple #[d.V, .bool (decide (0 < n))])) := Lib.hid (by rw [htk, decide_eq_true h0, show max now b.last = now by omega])
      have HN := Lib.hid hl
      clear htk hin h0 hl
      go_enter Try.func11, Try.ntmps11
      go_upto_region 1 with fail
      obtain ⟨W, hW⟩ : ∃ W, ((w.alloc (.cells c.cells 24)).alloc (.cells b.cells 26)).alloc (.cells #[.int .i64 0, .int .i64 0] 26) = W := ⟨_, rfl⟩
      rw [hW] at H ⊢; clear hW
      have HC : Hid (CAt W w.heap.size c) := Lib.hid H.out.2.1
      have HT : Hid (BtAt W (w.heap.size + 1) b) := Lib.hid H.out.2.2.1
      have HZ : Hid (BtAt W (w.heap.size + 1 + 1) zb) := Lib.hid H.out.2.2.2
      have HB := Lib.hid H.out.1
      clear H
      generalize w.heap.size + 1 + 1 = r at *
      generalize w.heap.size + 1 = q at *
      go_wp2_with (first | ((with_reducible apply wpList_load_cat (h := HC.out)); exact rfl; exact rfl; exact rfl) | ((with_reducible apply wpList_load_bt (h := HT.out)); exact rfl; exact rfl; exact rfl))
      refine (CK.out _).mono ?_
      rintro e w1 ⟨rfl, hb⟩
      have HZ1 := Lib.hid (HZ.out.step hb)
      have HT1 := Lib.hid (HT.out.step hb)
      have HB1 := Lib.hid (HB.out.trans (hb.mono HB.out.size))
      clear hb HC HT HZ HB CK
      have k1 := HT1.out.get1
      rw [← HN.out] at k1
      go_wp2_with ((with_reducible apply wpList_store_bt (c := ⟨n - 1, now⟩) (hq := HZ1.out)); exact rfl; exact rfl; exact rfl; exact rfl)
      exact bodyPost_ret (results_bt Try.results11 (x := ⟨n - 1, now⟩) rfl rfl (BtAt.setRow HZ1.out _)) rfl ⟨E.out, below_setRow HB1.out HL.out _⟩
    · have E : Hid (Ending.returned (.tuple #[(⟨n - 1, now⟩ : Bt).V, .bool true]) = .returned (.tuple #[d.V, .bool (decide (0 < n))])) := Lib.hid (by rw [htk, decide_eq_true h0, show max now b.last = now by omega])
      have hl2 : ¬ now < b.last := by omega
      have hl3 : ¬ now ≤ b.last := by omega
      clear htk hin h0
      go_enter Try.func11, Try.ntmps11
      go_upto_region 1 with fail
      obtain ⟨W, hW⟩ : ∃ W, ((w.alloc (.cells c.cells 24)).alloc (.cells b.cells 26)).alloc (.cells #[.int .i64 0, .int .i64 0] 26) = W := ⟨_, rfl⟩
      rw [hW] at H ⊢; clear hW
      have HC : Hid (CAt W w.heap.size c) := Lib.hid H.out.2.1
      have HT : Hid (BtAt W (w.heap.size + 1) b) := Lib.hid H.out.2.2.1
      have HZ : Hid (BtAt W (w.heap.size + 1 + 1) zb) := Lib.hid H.out.2.2.2
      have HB := Lib.hid H.out.1
      clear H
      generalize w.heap.size + 1 + 1 = r at *
      generalize w.heap.size + 1 = q at *
      go_wp2_with (first | ((with_reducible apply wpList_load_cat (h := HC.out)); exact rfl; exact rfl; exact rfl) | ((with_reducible apply wpList_load_bt (h := HT.out)); exact rfl; exact rfl; exact rfl))
      refine (CK.out _).mono ?_
      rintro e w1 ⟨rfl, hb⟩
      have HZ1 := Lib.hid (HZ.out.step hb)
      have HT1 := Lib.hid (HT.out.step hb)
      have HB1 := Lib.hid (HB.out.trans (hb.mono HB.out.size))
      clear hb HC HT HZ HB CK
      have k1 := HT1.out.get1
      go_wp2_with ((with_reducible apply wpList_store_bt (c := ⟨n - 1, now⟩) (hq := HZ1.out)); exact rfl; exact rfl; exact rfl; exact rfl)
      exact bodyPost_ret (results_bt Try.results11 (x := ⟨n - 1, now⟩) rfl rfl (BtAt.setRow HZ1.out _)) rfl ⟨E.out, below_setRow HB1.out HL.out _⟩
  · rw [if_neg h0] at htk
    have d0 : decide (n < 1) = true := decide_eq_true (by omega)
    have E : Hid (Ending.returned (.tuple #[b.V, .bool false]) = .returned (.tuple #[d.V, .bool (decide (0 < n))])) := Lib.hid (by rw [htk, decide_eq_false h0])
    clear htk hin h0
    go_enter Try.func11, Try.ntmps11
    go_upto_region 1 with fail
    obtain ⟨W, hW⟩ : ∃ W, ((w.alloc (.cells c.cells 24)).alloc (.cells b.cells 26)).alloc (.cells #[.int .i64 0, .int .i64 0] 26) = W := ⟨_, rfl⟩
    rw [hW] at H ⊢; clear hW
    have HC : Hid (CAt W w.heap.size c) := Lib.hid H.out.2.1
    have HT : Hid (BtAt W (w.heap.size + 1) b) := Lib.hid H.out.2.2.1
    have HZ : Hid (BtAt W (w.heap.size + 1 + 1) zb) := Lib.hid H.out.2.2.2
    have HB := Lib.hid H.out.1
    clear H
    generalize w.heap.size + 1 + 1 = r at *
    generalize w.heap.size + 1 = q at *
    go_wp2_with (first | ((with_reducible apply wpList_load_cat (h := HC.out)); exact rfl; exact rfl; exact rfl) | ((with_reducible apply wpList_load_bt (h := HT.out)); exact rfl; exact rfl; exact rfl))
    refine (CK.out _).mono ?_
    rintro e w1 ⟨rfl, hb⟩
    have HZ1 := Lib.hid (HZ.out.step hb)
    have HT1 := Lib.hid (HT.out.step hb)
    have HB1 := Lib.hid (HB.out.trans (hb.mono HB.out.size))
    clear hb HC HT HZ HB CK
    go_wp2_with (first | ((with_reducible apply wpList_load_bt (h := HT1.out)); exact rfl; exact rfl; exact rfl) | ((with_reducible apply wpList_store_bt (c := b) (hq := HZ1.out)); exact rfl; exact rfl; exact rfl; exact rfl))
    exact bodyPost_ret (results_bt Try.results11 (x := b) rfl rfl (BtAt.setRow HZ1.out _)) rfl ⟨E.out, below_setRow HB1.out HL.out _⟩
end Go.Proofs.Ytepfgheliddpmaa
