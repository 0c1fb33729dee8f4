/- The contract of alike: a shelf is the document's. -/
import Derived.Test.YtdpgpdadgcogjaaRefB
import Derived.Test.YtdpgpdadgcogjaaShelfStays
namespace Go.Proofs.Ytdpgpdadgcogjaa
open Go.RowKit Go.Lib Plain
set_option linter.unusedVariables false

section
variable {w w' : World} {v u : Value} {l : List KV} {room : Nat}
theorem Rd.txt {O : Option Addr} {n cap i : Nat} {ss : List ByteArray} (h : Rd eS w (.slice O n cap) ss) {s : ByteArray} (hp : ss[i]? = some s) : ∃ b off, O = some ⟨b, off, none⟩ ∧ b < w.heap.size ∧ w.cell? ⟨b, off + i, none⟩ = some (.string s) := by
  obtain ⟨O', cap', hv, hc, h⟩ := h
  injection hv with e1 e2 e3
  subst e1
  obtain ⟨b, off, rfl, hb, k⟩ := h i s hp
  refine ⟨b, off, rfl, hb, ?_⟩
  have := k 0 (.string s) rfl
  have e : eS.s = 1 := rfl
  rw [e, Nat.mul_one, Nat.add_zero] at this
  exact this
theorem Rd.slice {α : Type} {E : El α} {xs : List α} (h : Rd E w v xs) : ∃ O cap, v = .slice O xs.length cap := by
  obtain ⟨O, cap, h, _⟩ := h
  exact ⟨O, cap, h⟩
set_option maxRecDepth 100000 in
set_option maxHeartbeats 3200000 in
theorem alike_any (h : SAt w v l room) (hu : Rd eR w u l) : Calls Try.prog 18 #[v, u] w fun e w' => e = .returned (.bool true) ∧ Below w.heap.size w w' := by
  obtain ⟨o, rfl⟩ := h.form
  obtain ⟨O, cap, rfl⟩ := hu.slice
  have hle : l.length ≤ 70000 := by have := h.le; omega
  have hv := Var.new h
  have hb0 := below_new w (.cells #[.pointer o, .int .i64 (l.length : Int), .int .i64 (room : Int)] 26)
  have hu1 := hu.below hb0
  have V1 := Lib.hid hv; have U1 := Lib.hid hu1; have B0 := Lib.hid hb0; have HLE := Lib.hid hle
  clear h hu hv hu1 hb0 hle
  obtain ⟨n, hn⟩ : ∃ n, l.length = n := ⟨_, rfl⟩
  have HN := Lib.hid hn
  have CL := Lib.hid (List_any V1.out.sat)
  rw [hn] at B0 CL U1
  have V1' := V1.out
  rw [hn] at V1'
  have VV := Lib.hid V1'
  rw [hn]
  clear hn V1 V1'
  go_enter Try.func18, Try.ntmps18
  go_wp2_with fail
  refine CL.out.mono ?_
  rintro e w2 ⟨sv, rfl, so, d2⟩
  obtain ⟨O2, c2, rfl⟩ := so.rd.slice
  have v2 := VV.out.step d2
  obtain ⟨q0, q1, q2⟩ := v2.c
  rw [HN.out] at q1
  have V2 := Lib.hid v2; have U2 := Lib.hid (U1.out.below d2); have B2 := Lib.hid (B0.out.trans (d2.mono B0.out.size)); have SO := Lib.hid so.rd
  have ck := Keys_any v2.sat
  rw [HN.out] at ck
  have CK := Lib.hid ck
  clear v2 so d2 CL VV U1 B0 ck
  go_wp2_with fail
  refine CK.out.mono ?_
  rintro e w3 ⟨kv, rfl, ko, d3⟩
  obtain ⟨O3, c3, rfl⟩ := ko.rd.slice
  have v3 := V2.out.step d3
  obtain ⟨q0, q1, q2⟩ := v3.c
  rw [HN.out] at q1
  have cl := len_any v3.sat
  rw [HN.out] at cl
  have V3 := Lib.hid v3; have U3 := Lib.hid (U2.out.below d3); have B3 := Lib.hid (B2.out.trans (d3.mono B2.out.size)); have SO3 := Lib.hid (SO.out.below d3); have KO := Lib.hid ko.rd; have CLN := Lib.hid cl
  rw [List.length_map] at KO
  rw [List.length_map]
  rw [HN.out] at KO SO3 ⊢
  clear v3 ko d3 CK V2 U2 B2 SO cl
  go_wp2_with fail
  refine CLN.out.mono ?_
  rintro e w4 ⟨rfl, d4⟩
  have U4 := Lib.hid (U3.out.below d4); have B4 := Lib.hid (B3.out.trans (d4.mono B3.out.size)); have S4 := Lib.hid (SO3.out.below d4); have K4 := Lib.hid (KO.out.below d4)
  clear d4 V3 U3 B3 SO3 KO CLN q0 q1 q2
  go_wp2_with fail
  go_loopg [7] n (fun gh s7 wx => ∃ j : Nat, j ≤ n ∧ gh = n - j ∧ s7 = .int .i64 (j : Int) ∧ Below w4.heap.size w4 wx)
  case atStart => exact ⟨0, Nat.zero_le _, rfl, rfl, Below.refl _ _⟩
  case round =>
    obtain ⟨j, hj, hg, rfl, hb⟩ := hrel
    have HG := Lib.hid hg; have HB := Lib.hid hb; clear hg hb
    by_cases hlt : j < n
    · have hjj : j < l.length := by rw [HN.out]; exact hlt
      obtain ⟨b1, f1, rfl, _, x0, x1⟩ := (S4.out.below HB.out).pair rfl rfl hjj
      obtain ⟨b2, f2, rfl, _, y0, y1⟩ := (U4.out.below HB.out).pair rfl rfl hjj
      obtain ⟨b3, f3, rfl, _, z0⟩ := (K4.out.below HB.out).txt (i := j) (s := l[j].1) (by rw [List.getElem?_map, List.getElem?_eq_getElem hjj]; rfl)
      generalize l[j] = y at *
      have a3 : (j : Int) < (n : Int) := by omega
      have a4 : (0 : Int) ≤ (j : Int) := by omega
      go_wp2_with fail
      go_quiet (fail)
      go_wp2_with fail
      go_roundg (n - (j + 1))
      case measure => have := HG.out; omega
      case rel => exact ⟨j + 1, by omega, rfl, (by have h1 := HLE.out; have h2 := HN.out; first | rfl | (rw [IntWalk.wrap64_in _ (by omega)]; rfl)), below_drewN HB.out _⟩
    · go_wp2_with fail
      go_ret
      exact ⟨rfl, B4.out.trans (HB.out.mono B4.out.size)⟩
end
end Go.Proofs.Ytdpgpdadgcogjaa
