/- ShelfStays: the walk. -/
import Derived.Test.YtdpgpdadgcogjaaDoes
namespace Go.Proofs.Ytdpgpdadgcogjaa
open Go.RowKit Go.Lib Plain
set_option linter.unusedVariables false

theorem rm_of {k : Nat} (h1 : 1 ≤ k) (h2 : k ≤ 65536) : rm (k : Int) = k := by
  unfold rm
  rw [if_neg (by omega)]
  omega
theorem eq_true_any {w : World} {v u : Value} {l : List KV} {r : Nat} (hv : SAt w v l r) (hu : SAt w u l r) : Calls Try.prog 20 #[v, u] w fun e w' => e = .returned (.bool true) ∧ Below w.heap.size w w' := by
  have := equal_any hv hu
  rwa [decide_eq_true ⟨rfl, rfl⟩] at this
/-- a shelf in a variable -/
structure Var (w : World) (p : Nat) (o : Option Addr) (l : List KV) (room : Nat) : Prop where
  at_ : At w p 26 #[.pointer o, .int .i64 (l.length : Int), .int .i64 (room : Int)]
  sat : SAt w (.agg #[.pointer o, .int .i64 (l.length : Int), .int .i64 (room : Int)]) l room
theorem Var.step {w w' : World} {p : Nat} {o : Option Addr} {l : List KV} {room : Nat} (h : Var w p o l room) (hb : Below w.heap.size w w') : Var w' p o l room := ⟨h.at_.below hb h.at_.lt, h.sat.step hb⟩
theorem Var.new {w : World} {o : Option Addr} {l : List KV} {room : Nat} (h : SAt w (.agg #[.pointer o, .int .i64 (l.length : Int), .int .i64 (room : Int)]) l room) : Var (w.alloc (.cells #[.pointer o, .int .i64 (l.length : Int), .int .i64 (room : Int)] 26)) w.heap.size o l room :=
  ⟨At.new w 26 _, h.step (below_new w _)⟩
theorem Var.c {w : World} {p : Nat} {o : Option Addr} {l : List KV} {room : Nat} (h : Var w p o l room) : w.cell? ⟨p, 0, none⟩ = some (.pointer o) ∧ w.cell? ⟨p, 1, none⟩ = some (.int .i64 (l.length : Int)) ∧ w.cell? ⟨p, 2, none⟩ = some (.int .i64 (room : Int)) :=
  ⟨by rw [h.at_.cell]; rfl, by rw [h.at_.cell]; rfl, by rw [h.at_.cell]; rfl⟩
set_option maxRecDepth 100000 in
set_option maxHeartbeats 6400000 in
theorem shelfStays_walk (z : Int) (A : Option Addr) (ca : Nat) (fs : List Deed) (A2 : Option Addr) (ca2 : Nat) (xs : List Deed) (A3 : Option Addr) (ca3 : Nat) (ys : List Deed) (w : World) (hz : inI64 z) (_ : ∀ y ∈ fs, y.Ok) (hA : ActsAt w w.heap.size A fs) (hl : fs.length ≤ maxLen) (_ : ∀ y ∈ xs, y.Ok) (hA2 : ActsAt w w.heap.size A2 xs) (hl2 : xs.length ≤ maxLen) (_ : ∀ y ∈ ys, y.Ok) (hA3 : ActsAt w w.heap.size A3 ys) (hl3 : ys.length ≤ maxLen) :
    Calls Try.prog 4 #[.int .i64 z, .slice A fs.length ca, .slice A2 xs.length ca2, .slice A3 ys.length ca3] w fun e w' => e = .returned (.bool true) ∧ Below w.heap.size w w' := by
  unfold maxLen at hl hl2 hl3
  by_cases g1 : 30 < fs.length
  · clear hA hA2 hA3
    go_enter Try.func4, Try.ntmps4
    go_wp2_with (go_at_call 7; refine (awake_any _).mono ?_; rintro e w' ⟨rfl, hg⟩)
    go_ret
    exact ⟨rfl, hg⟩
  by_cases g2 : 30 < xs.length
  · clear hA hA2 hA3
    go_enter Try.func4, Try.ntmps4
    go_wp2_with (go_at_call 7; refine (awake_any _).mono ?_; rintro e w' ⟨rfl, hg⟩)
    go_ret
    exact ⟨rfl, hg⟩
  by_cases g3 : 30 < ys.length
  · clear hA hA2 hA3
    go_enter Try.func4, Try.ntmps4
    go_wp2_with (go_at_call 7; refine (awake_any _).mono ?_; rintro e w' ⟨rfl, hg⟩)
    go_ret
    exact ⟨rfl, hg⟩
  clear hl hl2 hl3
  obtain ⟨k, hk1, hk2, hk0⟩ := room_of z 1 40 (by omega) (by omega) (by omega)
  have hk : wrap64 (1 + wrap64 ((IntKind.u64.wrap z).tmod 40)) = (k : Int) := hk0
  have HK := Lib.hid hk; clear hk hk0
  have HA := Lib.hid (fun W (hb : Below w.heap.size w W) => (hA.keep hb)); have HA2 := Lib.hid (fun W (hb : Below w.heap.size w W) => (hA2.keep hb)); have HA3 := Lib.hid (fun W (hb : Below w.heap.size w W) => (hA3.keep hb))
  clear hA hA2 hA3
  -- does, at any world behind
  have mono : ∀ {W : World} {A : Option Addr} {ds : List Deed}, Below w.heap.size w W → ActsAt W w.heap.size A ds → ActsAt W W.heap.size A ds := fun hb h i hi => by
    obtain ⟨b, off, e, hlt, r⟩ := h i hi
    exact ⟨b, off, e, Nat.lt_of_lt_of_le hlt hb.size, r⟩
  have CN := Lib.hid (fun W => new_any (k : Int) W)
  rw [rm_of hk1 (by omega)] at CN
  have CF := Lib.hid (fun W v l (hb : Below w.heap.size w W) (hs : SAt W v l k) => does_any (cap := ca) (B := 0) hs (mono hb (HA.out W hb)) (by omega))
  have CA := Lib.hid (fun W v l (hb : Below w.heap.size w W) (hs : SAt W v l k) => does_any (cap := ca2) (B := 0) hs (mono hb (HA2.out W hb)) (by omega))
  have CB := Lib.hid (fun W v l (hb : Below w.heap.size w W) (hs : SAt W v l k) => does_any (cap := ca3) (B := 0) hs (mono hb (HA3.out W hb)) (by omega))
  clear mono HA HA2 HA3
  generalize hfs : deeds k [] fs = F at *
  have HFS := Lib.hid hfs; clear hfs
  go_enter Try.func4, Try.ntmps4
  go_wp2_with (go_at_call 7; refine (awake_any _).mono ?_; rintro e w0 ⟨rfl, hb0⟩)
  rw [HK.out]
  refine (CN.out _).mono ?_
  rintro e w1 ⟨v1, rfl, s1, d1⟩
  have b1 := hb0.trans (d1.mono hb0.size)
  obtain ⟨o1, rfl⟩ := s1.form
  go_wp2_with fail
  refine (CF.out _ _ _ b1 s1).mono ?_
  rintro e w2 ⟨v2, rfl, s2, d2⟩
  rw [HFS.out] at s2
  have b2 := b1.trans (d2.mono b1.size)
  obtain ⟨o2, rfl⟩ := s2.form
  have hv := Var.new s2
  have bn := below_new w2 (.cells #[.pointer o2, .int .i64 (F.length : Int), .int .i64 (k : Int)] 26)
  have b3 := b2.trans (bn.mono b2.size)
  have VS := Lib.hid hv; have B3 := Lib.hid b3
  clear hb0 b1 s1 d1 s2 d2 b2 hv bn b3
  go_wp2_with fail
  obtain ⟨W3, hW3⟩ : ∃ W3, w2.alloc (.cells #[.pointer o2, .int .i64 (F.length : Int), .int .i64 (k : Int)] 26) = W3 := ⟨_, rfl⟩
  rw [hW3] at VS B3 ⊢
  clear hW3
  generalize w2.heap.size = p10 at *
  refine (CA.out _ _ _ B3.out VS.out.sat).mono ?_
  rintro e w4 ⟨v4, rfl, s4, d4⟩
  obtain ⟨o4, rfl⟩ := s4.form
  have hv := Var.new s4
  generalize hX : deeds k F xs = X at *
  have bn := below_new w4 (.cells #[.pointer o4, .int .i64 (X.length : Int), .int .i64 (k : Int)] 26)
  have b4 := B3.out.trans (d4.mono B3.out.size)
  have b5 := b4.trans (bn.mono b4.size)
  have VX := Lib.hid hv; have B5 := Lib.hid b5; have HX := Lib.hid hX
  have VS5 := Lib.hid ((VS.out.step d4).step bn)
  have vs4 := VS.out.step d4
  obtain ⟨q0, q1, q2⟩ := vs4.c
  have np := vs4.at_.lt
  clear VS B3 s4 d4 b4 hv bn b5 hX vs4
  go_wp2_with fail
  obtain ⟨W5, hW5⟩ : ∃ W5, w4.alloc (.cells #[.pointer o4, .int .i64 (X.length : Int), .int .i64 (k : Int)] 26) = W5 := ⟨_, rfl⟩
  rw [hW5] at VX B5 VS5 ⊢
  clear hW5 q0 q1 q2 np
  generalize w4.heap.size = p11 at *
  refine (CB.out _ _ _ B5.out VS5.out.sat).mono ?_
  rintro e w6 ⟨v6, rfl, s6, d6⟩
  obtain ⟨o6, rfl⟩ := s6.form
  have hv := Var.new s6
  generalize hY : deeds k F ys = Y at *
  have bn := below_new w6 (.cells #[.pointer o6, .int .i64 (Y.length : Int), .int .i64 (k : Int)] 26)
  have b6 := B5.out.trans (d6.mono B5.out.size)
  have b7 := b6.trans (bn.mono b6.size)
  have VY := Lib.hid hv; have B7 := Lib.hid b7; have HY := Lib.hid hY
  have VS7 := Lib.hid ((VS5.out.step d6).step bn); have VX7 := Lib.hid ((VX.out.step d6).step bn)
  clear VS5 VX B5 s6 d6 b6 hv bn b7 hY
  go_wp2_with fail
  obtain ⟨W7, hW7⟩ : ∃ W7, w6.alloc (.cells #[.pointer o6, .int .i64 (Y.length : Int), .int .i64 (k : Int)] 26) = W7 := ⟨_, rfl⟩
  rw [hW7] at VY B7 VS7 VX7 ⊢
  clear hW7
  generalize w6.heap.size = p12 at *
  refine (CN.out _).mono ?_
  rintro e w8 ⟨v8, rfl, s8, d8⟩
  obtain ⟨o8, rfl⟩ := s8.form
  have b8 := B7.out.trans (d8.mono B7.out.size)
  go_wp2_with fail
  refine (CF.out _ _ _ b8 s8).mono ?_
  rintro e w9 ⟨v9, rfl, s9, d9⟩
  rw [HFS.out] at s9
  obtain ⟨o9, rfl⟩ := s9.form
  have b9 := b8.trans (d9.mono b8.size)
  go_wp2_with fail
  refine (CB.out _ _ _ b9 s9).mono ?_
  rintro e wa ⟨va, rfl, sa, da⟩
  rw [HY.out] at sa
  obtain ⟨oa, rfl⟩ := sa.form
  have ba := b9.trans (da.mono b9.size)
  have hv := Var.new sa
  have bn := below_new wa (.cells #[.pointer oa, .int .i64 (Y.length : Int), .int .i64 (k : Int)] 26)
  have dd := ((d8.trans (d9.mono d8.size)).trans (da.mono (Nat.le_trans d8.size d9.size))).trans (bn.mono (Nat.le_trans (Nat.le_trans d8.size d9.size) da.size))
  have bb := ba.trans (bn.mono ba.size)
  have VA := Lib.hid hv; have BB := Lib.hid bb
  have VSb := Lib.hid (VS7.out.step dd); have VXb := Lib.hid (VX7.out.step dd); have VYb := Lib.hid (VY.out.step dd)
  clear VS7 VX7 VY B7 s8 d8 b8 s9 d9 b9 sa da ba hv bn dd bb
  go_wp2_with fail
  obtain ⟨Wb, hWb⟩ : ∃ Wb, wa.alloc (.cells #[.pointer oa, .int .i64 (Y.length : Int), .int .i64 (k : Int)] 26) = Wb := ⟨_, rfl⟩
  rw [hWb] at VA BB VSb VXb VYb ⊢
  clear hWb
  generalize wa.heap.size = p13 at *
  refine (CN.out _).mono ?_
  rintro e wc ⟨vc, rfl, sc, dc⟩
  obtain ⟨oc, rfl⟩ := sc.form
  have bc := BB.out.trans (dc.mono BB.out.size)
  go_wp2_with fail
  refine (CF.out _ _ _ bc sc).mono ?_
  rintro e wd ⟨vd, rfl, sd, dd⟩
  rw [HFS.out] at sd
  obtain ⟨od, rfl⟩ := sd.form
  have bd := bc.trans (dd.mono bc.size)
  have hv := Var.new sd
  have bn := below_new wd (.cells #[.pointer od, .int .i64 (F.length : Int), .int .i64 (k : Int)] 26)
  have de := (dc.trans (dd.mono dc.size)).trans (bn.mono (Nat.le_trans dc.size dd.size))
  have be := bd.trans (bn.mono bd.size)
  have VB := Lib.hid hv; have BE := Lib.hid be
  have VSe := Lib.hid (VSb.out.step de); have VXe := Lib.hid (VXb.out.step de); have VYe := Lib.hid (VYb.out.step de); have VAe := Lib.hid (VA.out.step de)
  clear VA BB VSb VXb VYb sc dc bc sd dd bd hv bn de be
  go_wp2_with fail
  obtain ⟨We, hWe⟩ : ∃ We, wd.alloc (.cells #[.pointer od, .int .i64 (F.length : Int), .int .i64 (k : Int)] 26) = We := ⟨_, rfl⟩
  rw [hWe] at VB BE VSe VXe VYe VAe ⊢
  clear hWe
  generalize wd.heap.size = p14 at *
  have C1 := Lib.hid (fun W (hb : Below We.heap.size We W) => eq_true_any (VYe.out.step hb).sat (VAe.out.step hb).sat)
  have C2 := Lib.hid (fun W (hb : Below We.heap.size We W) => eq_true_any (VSe.out.step hb).sat (VB.out.step hb).sat)
  have C3 := Lib.hid (fun W (hb : Below We.heap.size We W) => CA.out W _ _ (BE.out.trans (hb.mono BE.out.size)) (VB.out.step hb).sat)
  have C4 := Lib.hid (fun W v (hb : Below We.heap.size We W) (hs : SAt W v X k) => eq_true_any (VXe.out.step hb).sat hs)
  rw [HX.out] at C3
  have HS := Lib.hid (fun W (hb : Below We.heap.size We W) => And.intro (VYe.out.step hb).c (And.intro (VAe.out.step hb).c (And.intro (VSe.out.step hb).c (And.intro (VB.out.step hb).c (VXe.out.step hb).c))))
  have BD := Lib.hid (Below.refl We.heap.size We).drew
  clear VSe VXe VYe VAe VB CN CF CA CB HX HY HFS HK
  generalize F.length = nF at *
  generalize X.length = nX at *
  generalize Y.length = nY at *
  go_region_held3 (fun w' => ((w'.cell? ⟨p12, 0, none⟩ = some (.pointer o6) ∧ w'.cell? ⟨p12, 1, none⟩ = some (.int .i64 (nY : Int)) ∧ w'.cell? ⟨p12, 2, none⟩ = some (.int .i64 (k : Int))) ∧ (w'.cell? ⟨p13, 0, none⟩ = some (.pointer oa) ∧ w'.cell? ⟨p13, 1, none⟩ = some (.int .i64 (nY : Int)) ∧ w'.cell? ⟨p13, 2, none⟩ = some (.int .i64 (k : Int))) ∧ (w'.cell? ⟨p10, 0, none⟩ = some (.pointer o2) ∧ w'.cell? ⟨p10, 1, none⟩ = some (.int .i64 (nF : Int)) ∧ w'.cell? ⟨p10, 2, none⟩ = some (.int .i64 (k : Int))) ∧ (w'.cell? ⟨p14, 0, none⟩ = some (.pointer od) ∧ w'.cell? ⟨p14, 1, none⟩ = some (.int .i64 (nF : Int)) ∧ w'.cell? ⟨p14, 2, none⟩ = some (.int .i64 (k : Int))) ∧ (w'.cell? ⟨p11, 0, none⟩ = some (.pointer o4) ∧ w'.cell? ⟨p11, 1, none⟩ = some (.int .i64 (nX : Int)) ∧ w'.cell? ⟨p11, 2, none⟩ = some (.int .i64 (k : Int)))))
    (first | exact HS.out _ BD.out | exact HS.out _ m1 | exact HS.out _ m2 | exact HS.out _ m3 | exact HS.out _ m4 | fail)
    (first
      | (go_at_call 20; (with_reducible refine (C1.out _ BD.out).mono ?_); rintro e y1 ⟨rfl, n1⟩; have m1 := BD.out.trans (n1.mono BD.out.size))
      | (go_at_call 20; (with_reducible refine (C2.out _ m1).mono ?_); rintro e y2 ⟨rfl, n2⟩; have m2 := m1.trans (n2.mono m1.size))
      | (go_at_call 21; (with_reducible refine (C3.out _ m2).mono ?_); rintro e y3 ⟨v3, rfl, s3, n3⟩; have m3 := m2.trans (n3.mono m2.size))
      | (go_at_call 20; (with_reducible refine (C4.out _ _ m3 s3).mono ?_); rintro e y4 ⟨rfl, n4⟩; have m4 := m3.trans (n4.mono m3.size))
      | fail)
  all_goals go_wp2_with fail
  go_ret
  exact ⟨rfl, BE.out.trans (m4.mono BE.out.size)⟩
end Go.Proofs.Ytdpgpdadgcogjaa
