/- token: the document's own sum, nine bytes in a row, by a loop. -/
import Derived.Test.YthoakjfhoehpoaaTokB
namespace Go.Proofs.Ythoakjfhoehpoaa
open Go.RowKit Go.Lib

theorem gtrans {a b c : World} (h1 : Grown a b) (h2 : Grown b c) : Grown a c :=
  ⟨World.keptBut_trans h1.1 h2.1, fun x => (h2.2.1 x).trans (h1.2.1 x), Nat.le_trans h1.2.2 h2.2.2⟩

def rowU (l : List Int) : BitVec 32 := l.foldl stp st0
theorem rowU_tk (s who role : Int) : rowU [s % 4294967296 / 16777216, s % 4294967296 / 65536 % 256, s % 4294967296 / 256 % 256, s % 256, who % 4294967296 / 16777216, who % 4294967296 / 65536 % 256, who % 4294967296 / 256 % 256, who % 256, role % 256] = tk (s % 4294967296) who role := by
  have e1 : s % 4294967296 / 16777216 = s % 4294967296 / 16777216 % 256 := by omega
  have e2 : s % 256 = s % 4294967296 % 256 := by omega
  have e3 : who % 4294967296 / 16777216 = who % 4294967296 / 16777216 % 256 := by omega
  have e4 : who % 256 = who % 4294967296 % 256 := by omega
  rw [e1, e2, e3, e4]
  rfl
set_option maxHeartbeats 1000000 in
theorem ref_aux (s who role : Int) (w : World) :
    Calls Try.prog 7 #[.int .u32 (s % 4294967296), .int .i64 who, .int .i64 role] w fun e w' => e = .returned (.int .u32 (N (tk (s % 4294967296) who role))) ∧ Grown w w' := by
  have HT := Lib.hid (rowU_tk s who role)
  have HB : Hid (∀ c ∈ [s % 4294967296 / 16777216, s % 4294967296 / 65536 % 256, s % 4294967296 / 256 % 256, s % 256, who % 4294967296 / 16777216, who % 4294967296 / 65536 % 256, who % 4294967296 / 256 % 256, who % 256, role % 256], 0 ≤ c ∧ c < 256) := Lib.hid (by
    intro c hc
    simp only [List.mem_cons, List.not_mem_nil, or_false] at hc
    omega)
  go_enter Try.func7, Try.ntmps7
  go_wp2
  generalize s % 4294967296 / 16777216 = c0 at *
  generalize s % 4294967296 / 65536 % 256 = c1 at *
  generalize s % 4294967296 / 256 % 256 = c2 at *
  generalize s % 256 = c3 at *
  generalize who % 4294967296 / 16777216 = c4 at *
  generalize who % 4294967296 / 65536 % 256 = c5 at *
  generalize who % 4294967296 / 256 % 256 = c6 at *
  generalize who % 256 = c7 at *
  generalize role % 256 = c8 at *
  go_loopg [9, 10] 9 (fun gh s9 s10 wx => ∃ j : Nat, j ≤ 9 ∧ gh = 9 - j ∧ s10 = .int .i64 (j : Int) ∧ s9 = .int .u32 (N (rowU ([c0, c1, c2, c3, c4, c5, c6, c7, c8].take j))) ∧ wx = w.alloc (Obj.cells #[.int .u8 c0, .int .u8 c1, .int .u8 c2, .int .u8 c3, .int .u8 c4, .int .u8 c5, .int .u8 c6, .int .u8 c7, .int .u8 c8] 33))
  case atStart => exact ⟨0, by omega, rfl, rfl, rfl, rfl⟩
  case round =>
    obtain ⟨j, hj, hg, rfl, rfl, rfl⟩ := hrel
    have HG := Lib.hid hg; clear hg
    by_cases h9 : j = 9
    · subst h9
      go_wp2
      go_ret
      exact ⟨ret_u32 (by rw [← HT.out]; rfl), (Grown.refl _).alloc _ _⟩
    have hj9 : j < 9 := by omega
    clear h9 hj
    by_cases h0 : j = 0
    · subst h0
      clear hj9
      have hb := HB.out c0 (by simp)
      have hx := N_xorc (rowU []) c0 hb.1 hb.2
      have hw : IntKind.u32.wrap c0 = c0 := by rw [IntKind.wrap_u32']; omega
      have HM := Lib.hid (N_mul (rowU [] ^^^ BitVec.ofInt 32 c0))
      clear hb
      have ht : List.take 0 [c0, c1, c2, c3, c4, c5, c6, c7, c8] = [] := rfl
      rw [ht]; clear ht
      go_wp2
      go_roundg 8
      case measure => have := HG.out; omega
      case rel => exact ⟨1, by omega, rfl, rfl, by rw [HM.out]; rfl, rfl⟩
    by_cases h1 : j = 1
    · subst h1
      clear hj9
      have hb := HB.out c1 (by simp)
      have hx := N_xorc (rowU [c0]) c1 hb.1 hb.2
      have hw : IntKind.u32.wrap c1 = c1 := by rw [IntKind.wrap_u32']; omega
      have HM := Lib.hid (N_mul (rowU [c0] ^^^ BitVec.ofInt 32 c1))
      clear hb
      have ht : List.take 1 [c0, c1, c2, c3, c4, c5, c6, c7, c8] = [c0] := rfl
      rw [ht]; clear ht
      go_wp2
      go_roundg 7
      case measure => have := HG.out; omega
      case rel => exact ⟨2, by omega, rfl, rfl, by rw [HM.out]; rfl, rfl⟩
    by_cases h2 : j = 2
    · subst h2
      clear hj9
      have hb := HB.out c2 (by simp)
      have hx := N_xorc (rowU [c0, c1]) c2 hb.1 hb.2
      have hw : IntKind.u32.wrap c2 = c2 := by rw [IntKind.wrap_u32']; omega
      have HM := Lib.hid (N_mul (rowU [c0, c1] ^^^ BitVec.ofInt 32 c2))
      clear hb
      have ht : List.take 2 [c0, c1, c2, c3, c4, c5, c6, c7, c8] = [c0, c1] := rfl
      rw [ht]; clear ht
      go_wp2
      go_roundg 6
      case measure => have := HG.out; omega
      case rel => exact ⟨3, by omega, rfl, rfl, by rw [HM.out]; rfl, rfl⟩
    by_cases h3 : j = 3
    · subst h3
      clear hj9
      have hb := HB.out c3 (by simp)
      have hx := N_xorc (rowU [c0, c1, c2]) c3 hb.1 hb.2
      have hw : IntKind.u32.wrap c3 = c3 := by rw [IntKind.wrap_u32']; omega
      have HM := Lib.hid (N_mul (rowU [c0, c1, c2] ^^^ BitVec.ofInt 32 c3))
      clear hb
      have ht : List.take 3 [c0, c1, c2, c3, c4, c5, c6, c7, c8] = [c0, c1, c2] := rfl
      rw [ht]; clear ht
      go_wp2
      go_roundg 5
      case measure => have := HG.out; omega
      case rel => exact ⟨4, by omega, rfl, rfl, by rw [HM.out]; rfl, rfl⟩
    by_cases h4 : j = 4
    · subst h4
      clear hj9
      have hb := HB.out c4 (by simp)
      have hx := N_xorc (rowU [c0, c1, c2, c3]) c4 hb.1 hb.2
      have hw : IntKind.u32.wrap c4 = c4 := by rw [IntKind.wrap_u32']; omega
      have HM := Lib.hid (N_mul (rowU [c0, c1, c2, c3] ^^^ BitVec.ofInt 32 c4))
      clear hb
      have ht : List.take 4 [c0, c1, c2, c3, c4, c5, c6, c7, c8] = [c0, c1, c2, c3] := rfl
      rw [ht]; clear ht
      go_wp2
      go_roundg 4
      case measure => have := HG.out; omega
      case rel => exact ⟨5, by omega, rfl, rfl, by rw [HM.out]; rfl, rfl⟩
    by_cases h5 : j = 5
    · subst h5
      clear hj9
      have hb := HB.out c5 (by simp)
      have hx := N_xorc (rowU [c0, c1, c2, c3, c4]) c5 hb.1 hb.2
      have hw : IntKind.u32.wrap c5 = c5 := by rw [IntKind.wrap_u32']; omega
      have HM := Lib.hid (N_mul (rowU [c0, c1, c2, c3, c4] ^^^ BitVec.ofInt 32 c5))
      clear hb
      have ht : List.take 5 [c0, c1, c2, c3, c4, c5, c6, c7, c8] = [c0, c1, c2, c3, c4] := rfl
      rw [ht]; clear ht
      go_wp2
      go_roundg 3
      case measure => have := HG.out; omega
      case rel => exact ⟨6, by omega, rfl, rfl, by rw [HM.out]; rfl, rfl⟩
    by_cases h6 : j = 6
    · subst h6
      clear hj9
      have hb := HB.out c6 (by simp)
      have hx := N_xorc (rowU [c0, c1, c2, c3, c4, c5]) c6 hb.1 hb.2
      have hw : IntKind.u32.wrap c6 = c6 := by rw [IntKind.wrap_u32']; omega
      have HM := Lib.hid (N_mul (rowU [c0, c1, c2, c3, c4, c5] ^^^ BitVec.ofInt 32 c6))
      clear hb
      have ht : List.take 6 [c0, c1, c2, c3, c4, c5, c6, c7, c8] = [c0, c1, c2, c3, c4, c5] := rfl
      rw [ht]; clear ht
      go_wp2
      go_roundg 2
      case measure => have := HG.out; omega
      case rel => exact ⟨7, by omega, rfl, rfl, by rw [HM.out]; rfl, rfl⟩
    by_cases h7 : j = 7
    · subst h7
      clear hj9
      have hb := HB.out c7 (by simp)
      have hx := N_xorc (rowU [c0, c1, c2, c3, c4, c5, c6]) c7 hb.1 hb.2
      have hw : IntKind.u32.wrap c7 = c7 := by rw [IntKind.wrap_u32']; omega
      have HM := Lib.hid (N_mul (rowU [c0, c1, c2, c3, c4, c5, c6] ^^^ BitVec.ofInt 32 c7))
      clear hb
      have ht : List.take 7 [c0, c1, c2, c3, c4, c5, c6, c7, c8] = [c0, c1, c2, c3, c4, c5, c6] := rfl
      rw [ht]; clear ht
      go_wp2
      go_roundg 1
      case measure => have := HG.out; omega
      case rel => exact ⟨8, by omega, rfl, rfl, by rw [HM.out]; rfl, rfl⟩
    by_cases h8 : j = 8
    · subst h8
      clear hj9
      have hb := HB.out c8 (by simp)
      have hx := N_xorc (rowU [c0, c1, c2, c3, c4, c5, c6, c7]) c8 hb.1 hb.2
      have hw : IntKind.u32.wrap c8 = c8 := by rw [IntKind.wrap_u32']; omega
      have HM := Lib.hid (N_mul (rowU [c0, c1, c2, c3, c4, c5, c6, c7] ^^^ BitVec.ofInt 32 c8))
      clear hb
      have ht : List.take 8 [c0, c1, c2, c3, c4, c5, c6, c7, c8] = [c0, c1, c2, c3, c4, c5, c6, c7] := rfl
      rw [ht]; clear ht
      go_wp2
      go_roundg 0
      case measure => have := HG.out; omega
      case rel => exact ⟨9, by omega, rfl, rfl, by rw [HM.out]; rfl, rfl⟩
    omega
theorem ref_any (s who role : Int) (w : World) (h0 : 0 ≤ s) (h1 : s < 4294967296) :
    Calls Try.prog 7 #[.int .u32 s, .int .i64 who, .int .i64 role] w fun e w' => e = .returned (.int .u32 (N (tk s who role))) ∧ Grown w w' := by
  have h := ref_aux s who role w
  rwa [show s % 4294967296 = s by omega] at h
end Go.Proofs.Ythoakjfhoehpoaa
