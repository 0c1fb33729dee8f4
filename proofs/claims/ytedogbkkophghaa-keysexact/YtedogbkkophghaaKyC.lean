/- Keys: where an entry stands, what counts, who can ask. -/
import Derived.Test.YtedogbkkophghaaKyB
import Derived.Test.YtedogbkkophghaaPkA
import Derived.Test.YtedogbkkophghaaOrder3
namespace Go.Proofs.Ytedogbkkophghaa
open Go.RowKit Go.Lib
open Sh.Plain (KV get put Rise)
set_option linter.unusedVariables false
set_option linter.unusedSimpArgs false

/-- a principal that can be -/
def isW (n : Int) : Prop := 1 ≤ n ∧ n ≤ 1073741824
/-- where the entry of a principal and a key stands -/
def plB (who k : Int) : List UInt8 := Pk.nums 4 [who, stp k, low k]
def pl (who k : Int) : ByteArray := Pk.textOf (plB who k)
theorem enc4_inj {a b : Int} (ha : 0 ≤ a ∧ a ≤ 4294967295) (hb : 0 ≤ b ∧ b ≤ 4294967295) (h : Pk.Plain.num 4 a = Pk.Plain.num 4 b) : a = b := by
  unfold Pk.Plain.num at h
  have h2 := congrArg Pk.Plain.dec h
  have e4 : (4 : Int).toNat = 4 := rfl
  have p4 : (256 : Nat) ^ 4 = 4294967296 := by decide
  rw [e4, Pk.Plain.dec_enc 4 _ (by rw [p4]; omega), Pk.Plain.dec_enc 4 _ (by rw [p4]; omega)] at h2
  omega
theorem pl_inj {a b k j : Int} (ha : isW a) (hb : isW b) (hk : isU k) (hj : isU j) (h : pl a k = pl b j) : a = b ∧ k = j := by
  have h1 : plB a k = plB b j := by
    have := congrArg (fun s : ByteArray => s.data.toList) h
    simpa [pl, Pk.textOf_data] using this
  simp only [plB, Pk.nums, List.flatMap_cons, List.flatMap_nil, List.append_nil] at h1
  unfold isW at ha hb
  have l4 : ∀ n : Int, (Pk.Plain.num 4 n).length = 4 := fun n => Pk.Plain.num_length 4 n
  obtain ⟨e1, h2⟩ := List.append_inj h1 (by rw [l4, l4])
  obtain ⟨e2, e3⟩ := List.append_inj h2 (by rw [l4, l4])
  have s1 := stp_in hk; have s2 := stp_in hj; have s3 := low_in k; have s4 := low_in j
  exact ⟨enc4_inj (by omega) (by omega) e1, key_ext (enc4_inj s1 s2 e2) (enc4_inj s3 s4 e3)⟩
theorem place_ok {who k : Int} (hw : isW who) (hk : isU k) : Pk.okNums 4 [who, stp k, low k] = true := by
  have s1 := stp_in hk; have s3 := low_in k
  unfold isW at hw
  have p4 : (256 : Nat) ^ (4 : Int).toNat = 4294967296 := by decide
  unfold Pk.okNums
  simp only [Bool.and_eq_true, List.all_eq_true]
  refine ⟨by decide, fun n hn => ?_⟩
  rw [Pk.Plain.fit_iff, p4]
  simp at hn
  rcases hn with rfl | rfl | rfl <;> omega
theorem low_walk {k : Int} (h : isU k) : IntKind.i64.wrap (IntKind.u32.wrap k) = low k := by
  have e : IntKind.u32.wrap k = low k := by rw [IntKind.wrap_u32]; rfl
  have := low_in k
  rw [e, IntWalk.i64_in _ (by omega)]
theorem low_walk2 {k : Int} : IntKind.u32.wrap k = low k := by rw [IntKind.wrap_u32]; rfl
set_option maxRecDepth 100000 in
set_option maxHeartbeats 1600000 in
theorem keyPlace_any {who k : Int} (hw : isW who) (hk : isU k) (w : World) : Calls Try.prog 29 #[.int .i64 who, .int .u64 k] w fun e w' => e = .returned (.string (pl who k)) ∧ Below w.heap.size w w' := by
  have HO := Lib.hid (Pk.Out.new w w.heap.size (Nat.le_refl _))
  have CS := Lib.hid (fun W => stamp_any k hk W)
  have hOK := place_ok hw hk
  have HOK := Lib.hid hOK
  have hlw : k % 4294967296 = low k := rfl
  have hs := stp_in hk; have hl := low_in k
  have HIN : Hid (∀ n ∈ [who, stp k, low k], Pk.inI64 n) := Lib.hid (by
    intro n hn
    unfold isW at hw
    unfold Pk.inI64
    simp at hn
    rcases hn with rfl | rfl | rfl <;> omega)
  have e1 : IntKind.i64.wrap (low k) = low k := IntWalk.i64_in _ (by omega)
  have CN : Hid (∀ W : World, W = (w.alloc (.cells #[.slice none 0 0] 97)).alloc (.cells #[.int .i64 who, .int .i64 (stp k), .int .i64 (low k)] 3) →
      Calls Try.prog 37 #[.pointer (some ⟨w.heap.size, 0, none⟩), .int .i64 4, .slice (some ⟨w.heap.size + 1, 0, none⟩) 3 3] W fun e w' => e = .returned (.bool true) ∧ ∃ v', Pk.Out w' w.heap.size w.heap.size v' (plB who k) ∧ Below w.heap.size w w') := Lib.hid (by
    intro W hW
    have ha := HO.out.alloc (.cells #[.int .i64 who, .int .i64 (stp k), .int .i64 (low k)] 3)
    rw [← hW] at ha
    have hsz : (w.alloc (.cells #[.slice none 0 0] 97)).heap.size = w.heap.size + 1 := by simp
    have hat : At W (w.heap.size + 1) 3 #[.int .i64 who, .int .i64 (stp k), .int .i64 (low k)] := by
      have := At.new (w.alloc (.cells #[.slice none 0 0] 97)) 3 #[.int .i64 who, .int .i64 (stp k), .int .i64 (low k)]
      rw [hsz, ← hW] at this
      exact this
    have hb : Below w.heap.size w W := by rw [hW]; exact ((Below.refl _ _).alloc (Nat.le_refl _) _).alloc (by simp) _
    refine (Pk.num_some w.heap.size w.heap.size (w.heap.size + 1) 0 3 _ [] 4 [who, stp k, low k] W ha hb.size (fun i hi => ?_) HIN.out (by simp) (by simp) ?_ (by decide)).mono ?_
    · rw [hat.cell]
      match i, hi with
      | 0, _ => rfl
      | 1, _ => rfl
      | 2, _ => rfl
      | n + 3, h => exact absurd h (by simp)
    · rintro (h | h)
      · omega
      · simp [Value.ownBlock] at h
    · rintro e w' ⟨rfl, v', ho, hc, hlz⟩
      rw [Pk.numd_yes _ HOK.out] at ho
      refine ⟨by rw [HOK.out], v', ho, hb.trans (hc.toBelow hb.size (fun q hq => ?_))⟩
      rintro (h | h)
      · omega
      · simp [Value.ownBlock] at h)
  clear hOK hw hk hs hl
  generalize stp k = a at *
  generalize low k = b at *
  have HPL := Lib.hid (show pl who k = Pk.textOf (plB who k) from rfl)
  generalize plB who k = bs at *
  go_enter Try.func29, Try.ntmps29
  go_wp2_with (go_at_call 12; (with_reducible refine (CS.out _).mono ?_); rintro e w2 ⟨rfl, rfl⟩)
  refine (CN.out _ rfl).mono ?_
  rintro e w3 ⟨rfl, v', ho, hb⟩
  have HB := Lib.hid hb
  have CT := Lib.hid (Pk.string_some ho)
  clear ho hb
  go_wp2_with (go_at_call 38; (with_reducible refine CT.out.mono ?_); rintro e w4 ⟨rfl, rfl⟩)
  go_ret
  exact ⟨by rw [HPL.out]; rfl, HB.out⟩
end Go.Proofs.Ytedogbkkophghaa
