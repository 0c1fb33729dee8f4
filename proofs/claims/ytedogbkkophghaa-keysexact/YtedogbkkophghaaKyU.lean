/- The document's own keys: Look. -/
import Derived.Test.YtedogbkkophghaaKyT
namespace Go.Proofs.Ytedogbkkophghaa
open Go.RowKit Go.Lib
open Sh.Plain (KV get put Rise)
set_option linter.unusedVariables false
set_option linter.unusedSimpArgs false

def rmatch (who k : Int) (y : En) : Bool := decide (y.who = who) && decide (y.key = k)
def rfind (who k : Int) (l : List En) : Option En := l.find? (rmatch who k)
def rcan (c : Cfg) (now who k : Int) : Bool := decide (0 ≤ now) && decide (now ≤ 1073741824) && decide (1 ≤ who) && decide (who ≤ 1073741824) && goodK c k now
def rlook (u : Ur) (now who k : Int) (body : ByteArray) : ByteArray × Int :=
  if rcan u.c now who k = true then
    match rfind who k (rcnt u.c now u.l) with
    | some y => if y.body = body then (y.ans, 2) else (zt, 3)
    | none => if u.c.get 5 ≤ ((rcnt u.c now u.l).length : Int) then (zt, 5) else (zt, 1)
  else (zt, 4)
theorem rfind_at {who k : Int} {l : List En} {j : Nat} {y : En} (h0 : rfind who k (l.take j) = none) (h : l[j]? = some y) (hm : rmatch who k y = true) : rfind who k l = some y := by
  have hl := (List.getElem?_eq_some_iff.1 h).1
  have e : l = l.take j ++ y :: l.drop (j + 1) := by
    have h1 := List.take_append_drop j l
    rw [List.drop_eq_getElem_cons hl, (List.getElem?_eq_some_iff.1 h).2] at h1
    exact h1.symm
  unfold rfind at h0 ⊢
  rw [e, List.find?_append, h0]
  simp [hm]
theorem rfind_next {who k : Int} {l : List En} {j : Nat} {y : En} (h0 : rfind who k (l.take j) = none) (h : l[j]? = some y) (hm : rmatch who k y = false) : rfind who k (l.take (j + 1)) = none := by
  unfold rfind at h0 ⊢
  rw [List.take_add_one, h, List.find?_append, h0]
  simp [hm]
set_option maxRecDepth 100000 in
set_option maxHeartbeats 3200000 in
theorem rlook_1 {u : Ur} {O : Option Addr} {n : Nat} {w : World} (now who k : Int) (body : ByteArray) (hk : isU k) (hn : isI now) (h1 : now < 0) : Calls Try.prog 15 #[u.V O n, .int .i64 now, .int .i64 who, .int .u64 k, .string body] w (TAns w (rlook u now who k body)) := by
  have H := Lib.hid (new1 w (u.cells O n) 35)
  rw [show rlook u now who k body = (zt, 4) from if_neg (by unfold rcan; simp; omega)]
  have d1 : decide (now < 0) = true := by simpa using h1
  clear h1 hk hn
  go_enter Try.func15, Try.ntmps15
  go_upto_region 1 with fail
  obtain ⟨W, hW⟩ : ∃ W, w.alloc (.cells (u.cells O n) 35) = W := ⟨_, rfl⟩
  rw [hW] at H ⊢; clear hW
  go_wp2_with fail
  go_ret2
  exact ⟨rfl, H.out.1⟩
set_option maxRecDepth 100000 in
set_option maxHeartbeats 3200000 in
theorem rlook_2 {u : Ur} {O : Option Addr} {n : Nat} {w : World} (now who k : Int) (body : ByteArray) (hk : isU k) (hn : isI now) (h1 : ¬ now < 0) (h2 : 1073741824 < now) : Calls Try.prog 15 #[u.V O n, .int .i64 now, .int .i64 who, .int .u64 k, .string body] w (TAns w (rlook u now who k body)) := by
  have H := Lib.hid (new1 w (u.cells O n) 35)
  rw [show rlook u now who k body = (zt, 4) from if_neg (by unfold rcan; simp; omega)]
  have d1 : decide (now < 0) = false := by simpa using h1
  have d2 : decide (1073741824 < now) = true := by simpa using h2
  clear h1 h2 hk hn
  go_enter Try.func15, Try.ntmps15
  go_upto_region 1 with fail
  obtain ⟨W, hW⟩ : ∃ W, w.alloc (.cells (u.cells O n) 35) = W := ⟨_, rfl⟩
  rw [hW] at H ⊢; clear hW
  go_wp2_with fail
  go_ret2
  exact ⟨rfl, H.out.1⟩
set_option maxRecDepth 100000 in
set_option maxHeartbeats 3200000 in
theorem rlook_3 {u : Ur} {O : Option Addr} {n : Nat} {w : World} (now who k : Int) (body : ByteArray) (hk : isU k) (hn : isI now) (h1 : ¬ now < 0) (h2 : ¬ 1073741824 < now) (h3 : who < 1) : Calls Try.prog 15 #[u.V O n, .int .i64 now, .int .i64 who, .int .u64 k, .string body] w (TAns w (rlook u now who k body)) := by
  have H := Lib.hid (new1 w (u.cells O n) 35)
  rw [show rlook u now who k body = (zt, 4) from if_neg (by unfold rcan; simp; omega)]
  have d1 : decide (now < 0) = false := by simpa using h1
  have d2 : decide (1073741824 < now) = false := by simpa using h2
  have d3 : decide (who < 1) = true := by simpa using h3
  clear h1 h2 h3 hk hn
  go_enter Try.func15, Try.ntmps15
  go_upto_region 1 with fail
  obtain ⟨W, hW⟩ : ∃ W, w.alloc (.cells (u.cells O n) 35) = W := ⟨_, rfl⟩
  rw [hW] at H ⊢; clear hW
  go_wp2_with fail
  go_ret2
  exact ⟨rfl, H.out.1⟩
set_option maxRecDepth 100000 in
set_option maxHeartbeats 3200000 in
theorem rlook_4 {u : Ur} {O : Option Addr} {n : Nat} {w : World} (now who k : Int) (body : ByteArray) (hk : isU k) (hn : isI now) (h1 : ¬ now < 0) (h2 : ¬ 1073741824 < now) (h3 : ¬ who < 1) (h4 : 1073741824 < who) : Calls Try.prog 15 #[u.V O n, .int .i64 now, .int .i64 who, .int .u64 k, .string body] w (TAns w (rlook u now who k body)) := by
  have H := Lib.hid (new1 w (u.cells O n) 35)
  rw [show rlook u now who k body = (zt, 4) from if_neg (by unfold rcan; simp; omega)]
  have d1 : decide (now < 0) = false := by simpa using h1
  have d2 : decide (1073741824 < now) = false := by simpa using h2
  have d3 : decide (who < 1) = false := by simpa using h3
  have d4 : decide (1073741824 < who) = true := by simpa using h4
  clear h1 h2 h3 h4 hk hn
  go_enter Try.func15, Try.ntmps15
  go_upto_region 1 with fail
  obtain ⟨W, hW⟩ : ∃ W, w.alloc (.cells (u.cells O n) 35) = W := ⟨_, rfl⟩
  rw [hW] at H ⊢; clear hW
  go_wp2_with fail
  go_ret2
  exact ⟨rfl, H.out.1⟩
set_option maxRecDepth 100000 in
set_option maxHeartbeats 3200000 in
theorem rlook_5 {u : Ur} {O : Option Addr} {n : Nat} {w : World} (now who k : Int) (body : ByteArray) (hk : isU k) (hn : isI now) (h1 : ¬ now < 0) (h2 : ¬ 1073741824 < now) (h3 : ¬ who < 1) (h4 : ¬ 1073741824 < who) (h5 : goodK u.c k now = false) : Calls Try.prog 15 #[u.V O n, .int .i64 now, .int .i64 who, .int .u64 k, .string body] w (TAns w (rlook u now who k body)) := by
  have H := Lib.hid (new1 w (u.cells O n) 35)
  rw [show rlook u now who k body = (zt, 4) from if_neg (by unfold rcan; rw [h5]; simp)]
  have d1 : decide (now < 0) = false := by simpa using h1
  have d2 : decide (1073741824 < now) = false := by simpa using h2
  have d3 : decide (who < 1) = false := by simpa using h3
  have d4 : decide (1073741824 < who) = false := by simpa using h4
  have CG := Lib.hid (fun W => by have h := rkgood_any u.c k now hk hn W; rwa [h5] at h)
  clear h1 h2 h3 h4 h5 hk hn
  go_enter Try.func15, Try.ntmps15
  go_upto_region 1 with fail
  obtain ⟨W, hW⟩ : ∃ W, w.alloc (.cells (u.cells O n) 35) = W := ⟨_, rfl⟩
  rw [hW] at H ⊢; clear hW
  have HK := Lib.hid (UrAt.kc H.out.2)
  go_wp2_with (first | ((with_reducible apply wpList_load_cpart (c := u.c) (h := HK.out)); exact rfl; exact rfl; exact rfl) | (go_at_call 11; (with_reducible refine (CG.out _).mono ?_); rintro e w1 ⟨rfl, hb1⟩))
  go_ret2
  exact ⟨rfl, H.out.1.trans (hb1.mono H.out.1.size)⟩
set_option maxRecDepth 100000 in
set_option maxHeartbeats 3200000 in
theorem rlook_6 {u : Ur} {O : Option Addr} {n B : Nat} {w : World} (now who k : Int) (body : ByteArray) (hk : isU k) (hn : isI now) (h1 : ¬ now < 0) (h2 : ¬ 1073741824 < now) (h3 : ¬ who < 1) (h4 : ¬ 1073741824 < who) (h5 : goodK u.c k now = true) (hs : Sh.Own eN w B (slv O u.l.length n) u.l) (hku : ∀ y ∈ u.l, isU y.key) (hc : 0 ≤ u.c.get 6 ∧ u.c.get 6 ≤ 65536) (hl : u.l.length ≤ 1000) : Calls Try.prog 15 #[u.V O n, .int .i64 now, .int .i64 who, .int .u64 k, .string body] w (TAns w (rlook u now who k body)) := by
  have H := Lib.hid (new1 w (u.cells O n) 35)
  obtain ⟨r, hr⟩ : ∃ r, rlook u now who k body = r := ⟨_, rfl⟩
  rw [hr]
  have HR := Lib.hid (show r = (match rfind who k (rcnt u.c now u.l) with | some y => if y.body = body then (y.ans, 2) else (zt, 3) | none => if u.c.get 5 ≤ ((rcnt u.c now u.l).length : Int) then (zt, 5) else (zt, 1)) from by rw [← hr]; exact if_pos (by unfold rcan; rw [h5]; simp; omega))
  clear hr
  have d1 : decide (now < 0) = false := by simpa using h1
  have d2 : decide (1073741824 < now) = false := by simpa using h2
  have d3 : decide (who < 1) = false := by simpa using h3
  have d4 : decide (1073741824 < who) = false := by simpa using h4
  have CG := Lib.hid (fun W => by have h := rkgood_any u.c k now hk hn W; rwa [h5] at h)
  have HS0 := Lib.hid (hs.below H.out.1)
  have CC := Lib.hid (fun W (h : Sh.Own eN W B (slv O u.l.length n) u.l) => rcounts_any now h hku hc hl)
  have HL := Lib.hid (show (rcnt u.c now u.l).length ≤ 1000 from Nat.le_trans (List.length_filter_le ..) hl)
  clear h1 h2 h3 h4 h5 hk hn hs hku hc hl
  go_enter Try.func15, Try.ntmps15
  go_upto_region 1 with fail
  obtain ⟨W, hW⟩ : ∃ W, w.alloc (.cells (u.cells O n) 35) = W := ⟨_, rfl⟩
  rw [hW] at H HS0 ⊢; clear hW
  have HK := Lib.hid (UrAt.kc H.out.2)
  go_upto_region 3 with (first | ((with_reducible apply wpList_load_cpart (c := u.c) (h := HK.out)); exact rfl; exact rfl; exact rfl) | (go_at_call 11; (with_reducible refine (CG.out _).mono ?_); rintro e w1 ⟨rfl, hb1⟩))
  have HU : Hid (UrAt w1 w.heap.size u O n) := Lib.hid (At.step H.out.2 hb1)
  have HS1 := Lib.hid (HS0.out.below hb1)
  have HB1 := Lib.hid (H.out.1.trans (hb1.mono H.out.1.size))
  clear H HK CG hb1 HS0 d1 d2 d3 d4
  generalize rcnt u.c now u.l = L at *
  go_wp2_with ((with_reducible apply wpList_load_ur (h := HU.out)); exact rfl; exact rfl; exact rfl)
  refine (CC.out _ HS1.out).mono ?_
  rintro e w3 ⟨rv, rfl, ho3, hb3⟩
  have HU3 : Hid (UrAt w3 w.heap.size u O n) := Lib.hid (At.step HU.out hb3)
  have HB3 := Lib.hid (HB1.out.trans (hb3.mono HB1.out.size))
  obtain ⟨OD, cD, rfl⟩ := own_sl ho3
  have HR3 := Lib.hid ho3.rd
  clear HU HB1 HS1 CC hb3 ho3
  obtain ⟨M, hM⟩ : ∃ M, L.length = M := ⟨_, rfl⟩
  rw [hM] at HR HL HR3 ⊢
  have HM := Lib.hid hM; clear hM
  go_wp2_with fail
  go_loopg [13] M (fun gh s13 wx => ∃ j : Nat, j ≤ M ∧ gh = M - j ∧ s13 = .int .i64 (j : Int) ∧ wx = w3 ∧ rfind who k (L.take j) = none)
  case atStart => exact ⟨0, Nat.zero_le _, rfl, rfl, rfl, by simp [rfind]⟩
  case round =>
    obtain ⟨j, hj, hg, rfl, rfl, hf⟩ := hrel
    have HG := Lib.hid hg; have HF := Lib.hid hf; clear hg hf
    have b4 : (0 : Int) ≤ (j : Int) := by omega
    by_cases hlt : j < M
    · have b3 : (j : Int) < (M : Int) := by omega
      have hjl : j < L.length := by rw [HM.out]; exact hlt
      obtain ⟨y, hy⟩ : ∃ y, L[j]? = some y := ⟨_, List.getElem?_eq_getElem hjl⟩
      obtain ⟨bb, off, rfl, hbb, hr⟩ := rowN_at HR3.out hy
      obtain ⟨k0, k1, k2, k3⟩ := En.rows hr
      have HY := Lib.hid hy; have HJ := Lib.hid hlt
      clear hr hbb hy hjl hlt hj
      by_cases h1 : y.who = who
      · have f1 : (y.who == who) = true := by simpa using h1
        have g1 : decide (y.who = who) = true := by simpa using h1
        by_cases h2 : y.key = k
        · have f2 : (y.key == k) = true := by simpa using h2
          have g2 : decide (y.key = k) = true := by simpa using h2
          have hfd := rfind_at HF.out HY.out (by unfold rmatch; simp [h1, h2] : rmatch who k y = true)
          rw [hfd] at HR
          have HR2 : Hid (r = if y.body = body then (y.ans, 2) else (zt, 3)) := Lib.hid HR.out
          clear h1 h2 hfd HR HF HY HR3
          by_cases h3 : y.body = body
          · obtain rfl : r = (y.ans, 2) := by rw [HR2.out, if_pos h3]
            have t1 : (y.body.toList == body.toList) = true := by rw [h3]; simp
            clear h3 HR2
            go_wp2_with fail
            go_ret2
            exact ⟨rfl, HB3.out⟩
          · obtain rfl : r = (zt, 3) := by rw [HR2.out, if_neg h3]
            have t1 : (y.body.toList == body.toList) = false := text_ne h3
            clear h3 HR2
            go_wp2_with fail
            go_ret2
            exact ⟨rfl, HB3.out⟩
        · have f2 : (y.key == k) = false := by simpa using h2
          have g2 : decide (y.key = k) = false := by simpa using h2
          have HF2 := Lib.hid (rfind_next HF.out HY.out (by unfold rmatch; simp [h2] : rmatch who k y = false))
          clear h1 h2 HF HY
          go_wp2_with fail
          go_roundg (M - (j + 1))
          case measure => have := HG.out; have := HJ.out; omega
          case rel => exact ⟨j + 1, by have := HJ.out; omega, rfl, (by have := HJ.out; have := HL.out; rw [IntWalk.wrap64_in _ (by omega)]; rfl), rfl, HF2.out⟩
      · have f1 : (y.who == who) = false := by simpa using h1
        have g1 : decide (y.who = who) = false := by simpa using h1
        have HF2 := Lib.hid (rfind_next HF.out HY.out (by unfold rmatch; simp [h1] : rmatch who k y = false))
        clear h1 HF HY k1
        go_wp2_with fail
        go_roundg (M - (j + 1))
        case measure => have := HG.out; have := HJ.out; omega
        case rel => exact ⟨j + 1, by have := HJ.out; omega, rfl, (by have := HJ.out; have := HL.out; rw [IntWalk.wrap64_in _ (by omega)]; rfl), rfl, HF2.out⟩
    · obtain rfl : j = M := by omega
      have b3 : ¬ (j : Int) < (j : Int) := by omega
      have hf := HF.out
      rw [← HM.out, List.take_length] at hf
      have k5 := UrAt.cget HU3.out (j := 5) (by decide)
      obtain ⟨t, ht⟩ : ∃ t : Bool, decide (u.c.get 5 ≤ (j : Int)) = t := ⟨_, rfl⟩
      rw [hf] at HR
      have HR2 : Hid (r = if t = true then (zt, 5) else (zt, 1)) := Lib.hid (by
        have h := HR.out
        rw [← ht]
        simpa using h)
      clear hf HR HF HM HR3 hlt hj HG HL HU3
      generalize u.c.get 5 = c5 at *
      cases t
      · obtain rfl : r = (zt, 1) := HR2.out
        go_wp2_with fail
        go_ret2
        exact ⟨rfl, HB3.out⟩
      · obtain rfl : r = (zt, 5) := HR2.out
        go_wp2_with fail
        go_ret2
        exact ⟨rfl, HB3.out⟩
/-- Look, the document's own -/
theorem rlook_any {u : Ur} {O : Option Addr} {n B : Nat} {w : World} (now who k : Int) (body : ByteArray) (hk : isU k) (hn : isI now) (hs : Sh.Own eN w B (slv O u.l.length n) u.l) (hku : ∀ y ∈ u.l, isU y.key) (hc : 0 ≤ u.c.get 6 ∧ u.c.get 6 ≤ 65536) (hl : u.l.length ≤ 1000) :
    Calls Try.prog 15 #[u.V O n, .int .i64 now, .int .i64 who, .int .u64 k, .string body] w (TAns w (rlook u now who k body)) := by
  by_cases h1 : now < 0
  · exact rlook_1 now who k body hk hn h1
  · by_cases h2 : 1073741824 < now
    · exact rlook_2 now who k body hk hn h1 h2
    · by_cases h3 : who < 1
      · exact rlook_3 now who k body hk hn h1 h2 h3
      · by_cases h4 : 1073741824 < who
        · exact rlook_4 now who k body hk hn h1 h2 h3 h4
        · cases h5 : goodK u.c k now
          · exact rlook_5 now who k body hk hn h1 h2 h3 h4 h5
          · exact rlook_6 now who k body hk hn h1 h2 h3 h4 h5 hs hku hc hl
end Go.Proofs.Ytedogbkkophghaa
