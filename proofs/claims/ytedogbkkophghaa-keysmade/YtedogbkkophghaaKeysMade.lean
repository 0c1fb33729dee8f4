/- Proved below: the walk of KeysMade. -/
import Derived.Test.YtedogbkkophghaaKyArgs
namespace Go.Proofs.Ytedogbkkophghaa
open Go.RowKit Go.Lib
open Sh.Plain (KV get put Rise)
set_option linter.unusedVariables false
set_option linter.unusedSimpArgs false

set_option maxRecDepth 100000 in
set_option maxHeartbeats 1600000 in
theorem km_1 (s n : Int) (w : World) (hs : isI s) (hn : isI n) (h : s < 0) : Calls Try.prog 4 #[.int .i64 s, .int .i64 n] w fun e w' => e = .returned (.bool true) ∧ Below w.heap.size w w' := by
  have CA := Lib.hid (awake_any w)
  have CK := Lib.hid (fun W => key_any s n hs hn W)
  have hk : keyK s n = 0 := if_neg (by simp [half]; omega)
  rw [hk] at CK
  have d1 : decide (s < 0) = true := by simpa using h
  clear h hs hn hk
  go_enter Try.func4, Try.ntmps4
  go_wp2_with fail
  refine CA.out.mono ?_
  rintro e w1 ⟨rfl, hb1⟩
  have HB := Lib.hid hb1; clear hb1 CA
  go_upto_region 4 with (go_at_call 21; (with_reducible refine (CK.out _).mono ?_); rintro e w2 ⟨rfl, rfl⟩)
  clear CK
  go_wp2_with fail
  go_ret
  exact ⟨rfl, HB.out⟩
set_option maxRecDepth 100000 in
set_option maxHeartbeats 1600000 in
theorem km_2 (s n : Int) (w : World) (hs : isI s) (hn : isI n) (h0 : ¬ s < 0) (h : 4294967295 < s) : Calls Try.prog 4 #[.int .i64 s, .int .i64 n] w fun e w' => e = .returned (.bool true) ∧ Below w.heap.size w w' := by
  have CA := Lib.hid (awake_any w)
  have CK := Lib.hid (fun W => key_any s n hs hn W)
  have hk : keyK s n = 0 := if_neg (by simp [half]; omega)
  rw [hk] at CK
  have d1 : decide (s < 0) = false := by simpa using h0
  have d2 : decide (4294967295 < s) = true := by simpa using h
  clear h0 h hs hn hk
  go_enter Try.func4, Try.ntmps4
  go_wp2_with fail
  refine CA.out.mono ?_
  rintro e w1 ⟨rfl, hb1⟩
  have HB := Lib.hid hb1; clear hb1 CA
  go_upto_region 4 with (go_at_call 21; (with_reducible refine (CK.out _).mono ?_); rintro e w2 ⟨rfl, rfl⟩)
  clear CK
  go_wp2_with fail
  go_ret
  exact ⟨rfl, HB.out⟩
set_option maxRecDepth 100000 in
set_option maxHeartbeats 1600000 in
theorem km_3 (s n : Int) (w : World) (hs : isI s) (hn : isI n) (h0 : ¬ s < 0) (h1 : ¬ 4294967295 < s) (h : n < 0) : Calls Try.prog 4 #[.int .i64 s, .int .i64 n] w fun e w' => e = .returned (.bool true) ∧ Below w.heap.size w w' := by
  have CA := Lib.hid (awake_any w)
  have CK := Lib.hid (fun W => key_any s n hs hn W)
  have hk : keyK s n = 0 := if_neg (by simp [half]; omega)
  rw [hk] at CK
  have d1 : decide (s < 0) = false := by simpa using h0
  have d2 : decide (4294967295 < s) = false := by simpa using h1
  have d3 : decide (n < 0) = true := by simpa using h
  clear h0 h1 h hs hn hk
  go_enter Try.func4, Try.ntmps4
  go_wp2_with fail
  refine CA.out.mono ?_
  rintro e w1 ⟨rfl, hb1⟩
  have HB := Lib.hid hb1; clear hb1 CA
  go_upto_region 4 with (go_at_call 21; (with_reducible refine (CK.out _).mono ?_); rintro e w2 ⟨rfl, rfl⟩)
  clear CK
  go_wp2_with fail
  go_ret
  exact ⟨rfl, HB.out⟩
set_option maxRecDepth 100000 in
set_option maxHeartbeats 1600000 in
theorem km_4 (s n : Int) (w : World) (hs : isI s) (hn : isI n) (h0 : ¬ s < 0) (h1 : ¬ 4294967295 < s) (h2 : ¬ n < 0) (h : 4294967295 < n) : Calls Try.prog 4 #[.int .i64 s, .int .i64 n] w fun e w' => e = .returned (.bool true) ∧ Below w.heap.size w w' := by
  have CA := Lib.hid (awake_any w)
  have CK := Lib.hid (fun W => key_any s n hs hn W)
  have hk : keyK s n = 0 := if_neg (by simp [half]; omega)
  rw [hk] at CK
  have d1 : decide (s < 0) = false := by simpa using h0
  have d2 : decide (4294967295 < s) = false := by simpa using h1
  have d3 : decide (n < 0) = false := by simpa using h2
  have d4 : decide (4294967295 < n) = true := by simpa using h
  clear h0 h1 h2 h hs hn hk
  go_enter Try.func4, Try.ntmps4
  go_wp2_with fail
  refine CA.out.mono ?_
  rintro e w1 ⟨rfl, hb1⟩
  have HB := Lib.hid hb1; clear hb1 CA
  go_upto_region 4 with (go_at_call 21; (with_reducible refine (CK.out _).mono ?_); rintro e w2 ⟨rfl, rfl⟩)
  clear CK
  go_wp2_with fail
  go_ret
  exact ⟨rfl, HB.out⟩
set_option maxRecDepth 100000 in
set_option maxHeartbeats 1600000 in
theorem km_5 (s n : Int) (w : World) (hs : isI s) (hn : isI n) (h0 : ¬ s < 0) (h1 : ¬ 4294967295 < s) (h2 : ¬ n < 0) (h3 : ¬ 4294967295 < n) : Calls Try.prog 4 #[.int .i64 s, .int .i64 n] w fun e w' => e = .returned (.bool true) ∧ Below w.heap.size w w' := by
  have CA := Lib.hid (awake_any w)
  have CK := Lib.hid (fun W => key_any s n hs hn W)
  have hk : keyK s n = s * 4294967296 + n := if_pos ⟨half_iff.2 ⟨by omega, by omega⟩, half_iff.2 ⟨by omega, by omega⟩⟩
  rw [hk] at CK
  have hu : isU (s * 4294967296 + n) := by unfold isU; omega
  have hst : stp (s * 4294967296 + n) = s := by unfold stp; omega
  have CS := Lib.hid (fun W => by have h := stamp_any (s * 4294967296 + n) hu W; rwa [hst] at h)
  have e1 : IntKind.u64.wrap s = s := by rw [IntKind.wrap_u64]; omega
  have e2 : IntKind.u64.wrap (s * 4294967296) = s * 4294967296 := by rw [IntKind.wrap_u64]; omega
  have e3 : IntKind.u64.wrap n = n := by rw [IntKind.wrap_u64]; omega
  have e4 : IntKind.u64.wrap (s * 4294967296 + n) = s * 4294967296 + n := by rw [IntKind.wrap_u64]; omega
  have d1 : decide (s < 0) = false := by simpa using h0
  have d2 : decide (4294967295 < s) = false := by simpa using h1
  have d3 : decide (n < 0) = false := by simpa using h2
  have d4 : decide (4294967295 < n) = false := by simpa using h3
  clear h0 h1 h2 h3 hs hn hk hu hst
  go_enter Try.func4, Try.ntmps4
  go_wp2_with fail
  refine CA.out.mono ?_
  rintro e w1 ⟨rfl, hb1⟩
  have HB := Lib.hid hb1; clear hb1 CA
  go_upto_region 4 with (go_at_call 21; (with_reducible refine (CK.out _).mono ?_); rintro e w2 ⟨rfl, rfl⟩)
  clear CK
  go_wp2_with (go_at_call 12; (with_reducible refine (CS.out _).mono ?_); rintro e w3 ⟨rfl, rfl⟩)
  go_ret
  exact ⟨rfl, HB.out⟩
theorem keysMade_walk (s n : Int) (w : World) (hs : inI64 s) (hn : inI64 n) : Calls Try.prog 4 #[.int .i64 s, .int .i64 n] w fun e w' => e = .returned (.bool true) ∧ Below w.heap.size w w' := by
  by_cases h0 : s < 0
  · exact km_1 s n w hs hn h0
  · by_cases h1 : 4294967295 < s
    · exact km_2 s n w hs hn h0 h1
    · by_cases h2 : n < 0
      · exact km_3 s n w hs hn h0 h1 h2
      · by_cases h3 : 4294967295 < n
        · exact km_4 s n w hs hn h0 h1 h2 h3
        · exact km_5 s n w hs hn h0 h1 h2 h3
end Go.Proofs.Ytedogbkkophghaa
