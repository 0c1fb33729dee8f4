/- The anchor 'awake' of the statements returns true, and leaves what was there as it was. -/
import Derived.Test.YtdpgpdadgcogjaaShH
namespace Go.Proofs.Ytdpgpdadgcogjaa
open Go.RowKit Go.Lib Plain
set_option linter.unusedVariables false

set_option maxRecDepth 100000 in
theorem newI_no (w : World) : Calls Try.prog 26 #[.int .i64 0] w fun e w' => e = .returned (.agg #[.pointer none, .int .i64 0, .int .i64 0]) ∧ Below w.heap.size w w' := by
  go_enter Try.func26, Try.ntmps26
  go_wp2
  exact bodyPost_ret (v := .agg #[.pointer none, .int .i64 0, .int .i64 0]) (by simp [results, Try.results26, go_sem]) rfl ⟨rfl, (Below.refl _ _).alloc (Nat.le_refl _) _⟩
theorem roomI (w : World) : Calls Try.prog 27 #[.agg #[.pointer none, .int .i64 0, .int .i64 0]] w fun e w' => e = .returned (.int .i64 0) ∧ Below w.heap.size w w' := by
  go_enter Try.func27, Try.ntmps27
  go_wp2
  go_ret
  exact ⟨rfl, (Below.refl _ _).alloc (Nat.le_refl _) _⟩
theorem SAt.form' {w : World} {v : Value} {l : List KV} {room : Nat} (h : SAt w v l room) (n r : Int) (hn : (l.length : Int) = n) (hr : (room : Int) = r) : ∃ o, v = .agg #[.pointer o, .int .i64 n, .int .i64 r] := by
  obtain ⟨o, h⟩ := h.form
  exact ⟨o, by rw [h, hn, hr]⟩
def kk : ByteArray := ⟨#[107]⟩
def kl : ByteArray := ⟨#[108]⟩
theorem kl_ne : kl ≠ kk := by decide
theorem below_new (w : World) (o : Obj) : Below w.heap.size w (w.alloc o) := (Below.refl _ _).alloc (Nat.le_refl _) _
set_option maxRecDepth 100000 in
set_option maxHeartbeats 3200000 in
theorem awake_any (w : World) : Calls Try.prog 7 #[] w fun e w' => e = .returned (.bool true) ∧ Below w.heap.size w w' := by
  go_enter Try.func7, Try.ntmps7
  go_wp2_with fail
  refine (new_any 1 w).mono ?_
  rintro e w1 ⟨v1, rfl, s1, b1⟩
  have s1' : SAt w1 v1 [] 1 := s1
  obtain ⟨o1, rfl⟩ := s1'.form' 0 1 rfl rfl
  have S1 := Lib.hid s1'; have B1 := Lib.hid b1; clear s1 s1' b1
  go_wp2_with fail
  have A1 := Lib.hid (At.new w1 26 #[.pointer o1, .int .i64 0, .int .i64 1])
  have S2 := Lib.hid (S1.out.step (below_new w1 (.cells #[.pointer o1, .int .i64 0, .int .i64 1] 26)))
  have B2 := Lib.hid (B1.out.trans ((below_new w1 (.cells #[.pointer o1, .int .i64 0, .int .i64 1] 26)).mono B1.out.size))
  have cw := With_any kk 5 S2.out
  obtain ⟨W2, hW2⟩ : ∃ W2, w1.alloc (.cells #[.pointer o1, .int .i64 0, .int .i64 1] 26) = W2 := ⟨_, rfl⟩
  rw [hW2] at A1 S2 B2 cw ⊢
  clear hW2 S1
  refine cw.mono ?_
  rintro e w3 ⟨v3, rfl, s3, b3⟩
  have e3 : wok 1 kk [] = true := rfl
  have e3' : wput 1 kk 5 [] = [(kk, 5)] := rfl
  rw [e3'] at s3
  rw [e3]
  obtain ⟨o3, rfl⟩ := s3.form' 1 1 rfl rfl
  have S3 := Lib.hid s3; have B3 := Lib.hid (B2.out.trans (b3.mono B2.out.size)); have A1' := Lib.hid (A1.out.below b3 A1.out.lt); have S1 := Lib.hid (S2.out.step b3)
  clear cw s3 b3 e3 e3' A1 S2 B2
  generalize w1.heap.size = p1 at *
  go_wp2_with fail
  have A2 := Lib.hid (At.new w3 26 #[.pointer o3, .int .i64 1, .int .i64 1])
  have A1 := Lib.hid (A1'.out.alloc (.cells #[.pointer o3, .int .i64 1, .int .i64 1] 26))
  have hn := below_new w3 (.cells #[.pointer o3, .int .i64 1, .int .i64 1] 26)
  have S4 := Lib.hid (S3.out.step hn); have S14 := Lib.hid (S1.out.step hn); have B4 := Lib.hid (B3.out.trans (hn.mono B3.out.size))
  clear hn S3 S1 B3 A1'
  obtain ⟨W4, hW4⟩ : ∃ W4, w3.alloc (.cells #[.pointer o3, .int .i64 1, .int .i64 1] 26) = W4 := ⟨_, rfl⟩
  rw [hW4] at A1 A2 S4 S14 B4 ⊢
  clear hW4
  generalize w3.heap.size = p2 at *
  refine (With_any kl 6 S4.out).mono ?_
  rintro e w5 ⟨v5, rfl, s5, b5⟩
  have e5 : wok 1 kl [(kk, 5)] = false := by simp [wok, Plain.get, kl_ne.symm]
  have e5' : wput 1 kl 6 [(kk, 5)] = [(kk, 5)] := by unfold wput; rw [e5]; rfl
  rw [e5'] at s5
  rw [e5]
  obtain ⟨o5, rfl⟩ := s5.form' 1 1 rfl rfl
  have hn := below_new w5 (.cells #[.pointer o5, .int .i64 1, .int .i64 1] 26)
  have hn5 := b5.trans (hn.mono b5.size)
  have A1' := Lib.hid (A1.out.below hn5 A1.out.lt); have A2' := Lib.hid (A2.out.below hn5 A2.out.lt); have A3' := Lib.hid (At.new w5 26 #[.pointer o5, .int .i64 1, .int .i64 1])
  have S1 := Lib.hid (S14.out.step hn5); have S2 := Lib.hid (S4.out.step hn5); have S3 := Lib.hid (s5.step hn); have B5 := Lib.hid (B4.out.trans (hn5.mono B4.out.size))
  have q0 : (w5.alloc (.cells #[.pointer o5, .int .i64 1, .int .i64 1] 26)).cell? ⟨p2, 0, none⟩ = some (.pointer o3) := by rw [A2'.out.cell]; rfl
  have q1 : (w5.alloc (.cells #[.pointer o5, .int .i64 1, .int .i64 1] 26)).cell? ⟨p2, 1, none⟩ = some (.int .i64 1) := by rw [A2'.out.cell]; rfl
  have q2 : (w5.alloc (.cells #[.pointer o5, .int .i64 1, .int .i64 1] 26)).cell? ⟨p2, 2, none⟩ = some (.int .i64 1) := by rw [A2'.out.cell]; rfl
  have r0 : w5.cell? ⟨p2, 0, none⟩ = some (.pointer o3) := by rw [(A2.out.below b5 A2.out.lt).cell]; rfl
  have r1 : w5.cell? ⟨p2, 1, none⟩ = some (.int .i64 1) := by rw [(A2.out.below b5 A2.out.lt).cell]; rfl
  have r2 : w5.cell? ⟨p2, 2, none⟩ = some (.int .i64 1) := by rw [(A2.out.below b5 A2.out.lt).cell]; rfl
  have np : p2 < w5.heap.size := (A2.out.below b5 A2.out.lt).lt
  clear s5 b5 hn hn5 e5 e5' A1 A2 S4 S14 B4 q0 q1 q2
  go_wp2_with fail
  obtain ⟨W6, hW6⟩ : ∃ W6, w5.alloc (.cells #[.pointer o5, .int .i64 1, .int .i64 1] 26) = W6 := ⟨_, rfl⟩
  rw [hW6] at A1' A2' A3' S1 S2 S3 B5 ⊢
  clear hW6 r0 r1 r2 np
  generalize w5.heap.size = p3 at *
  refine (With_any kk 7 S2.out).mono ?_
  rintro e w7 ⟨v7, rfl, s7, b7⟩
  have e7 : wok 1 kk [(kk, 5)] = true := by simp [wok, Plain.get]
  have e7' : wput 1 kk 7 [(kk, 5)] = [(kk, 7)] := by unfold wput; rw [e7]; simp [put, lt_irrefl]
  rw [e7'] at s7
  rw [e7]
  obtain ⟨o7, rfl⟩ := s7.form' 1 1 rfl rfl
  have hn := below_new w7 (.cells #[.pointer o7, .int .i64 1, .int .i64 1] 26)
  have hn7 := b7.trans (hn.mono b7.size)
  have T1 := Lib.hid (A1'.out.below hn7 A1'.out.lt); have T2 := Lib.hid (A2'.out.below hn7 A2'.out.lt); have T3 := Lib.hid (A3'.out.below hn7 A3'.out.lt); have T4 := Lib.hid (At.new w7 26 #[.pointer o7, .int .i64 1, .int .i64 1])
  have X1 := Lib.hid (S1.out.step hn7); have X2 := Lib.hid (S2.out.step hn7); have X3 := Lib.hid (S3.out.step hn7); have X4 := Lib.hid (s7.step hn); have B7 := Lib.hid (B5.out.trans (hn7.mono B5.out.size))
  clear s7 b7 hn hn7 e7 e7' A1' A2' A3' S1 S2 S3 B5
  go_wp2_with fail
  obtain ⟨W8, hW8⟩ : ∃ W8, w7.alloc (.cells #[.pointer o7, .int .i64 1, .int .i64 1] 26) = W8 := ⟨_, rfl⟩
  rw [hW8] at T1 T2 T3 T4 X1 X2 X3 X4 B7 ⊢
  clear hW8
  generalize w7.heap.size = p4 at *
  refine (get_any kk X4.out).mono ?_
  rintro e w9 ⟨rfl, b9⟩
  have eg : get kk [(kk, 7)] = some 7 := by simp [Plain.get]
  rw [eg]
  have HC := Lib.hid (fun W (hb : Below w9.heap.size w9 W) => And.intro (((T1.out.below b9 T1.out.lt).below hb (At.lt (T1.out.below b9 T1.out.lt)))) (And.intro ((T2.out.below b9 T2.out.lt).below hb (At.lt (T2.out.below b9 T2.out.lt))) ((T3.out.below b9 T3.out.lt).below hb (At.lt (T3.out.below b9 T3.out.lt)))))
  have CE := Lib.hid (fun W (hb : Below w9.heap.size w9 W) => equal_any ((X2.out.step b9).step hb) ((X3.out.step b9).step hb))
  have CL1 := Lib.hid (fun W (hb : Below w9.heap.size w9 W) => len_any ((X1.out.step b9).step hb))
  have CL2 := Lib.hid (fun W (hb : Below w9.heap.size w9 W) => len_any ((X2.out.step b9).step hb))
  have CR := Lib.hid (fun W (hb : Below w9.heap.size w9 W) => room_any ((X2.out.step b9).step hb))
  have B9 := Lib.hid (B7.out.trans (b9.mono B7.out.size))
  clear T1 T2 T3 T4 X1 X2 X3 X4 B7 b9 eg
  have ee : decide ((1 : Nat) = 1 ∧ [((kk, 5) : KV)] = [(kk, 5)]) = true := by simp
  rw [ee] at CE
  have H0 := Lib.hid (Below.refl w9.heap.size w9)
  obtain ⟨t1, t2, t3⟩ := HC.out _ H0.out
  have f0 := t1.cell 0; have f1 := t1.cell 1; have f2 := t1.cell 2
  have g0 := t2.cell 0; have g1 := t2.cell 1; have g2 := t2.cell 2
  have h0 := t3.cell 0; have h1 := t3.cell 1; have h2 := t3.cell 2
  simp at f0 f1 f2 g0 g1 g2 h0 h1 h2
  clear t1 t2 t3 ee
  have CNI := Lib.hid (fun W => newI_no W); have CRI := Lib.hid (fun W => roomI W)
  go_wp2_with fail
  refine (CE.out _ H0.out).mono ?_
  rintro e wa ⟨rfl, da⟩
  obtain ⟨t1, t2, t3⟩ := HC.out _ da; have f0 : wa.cell? ⟨p1, 0, none⟩ = some (.pointer o1) := (by rw [t1.cell]; rfl); have f1 : wa.cell? ⟨p1, 1, none⟩ = some (.int .i64 0) := (by rw [t1.cell]; rfl); have f2 : wa.cell? ⟨p1, 2, none⟩ = some (.int .i64 1) := (by rw [t1.cell]; rfl); have g0 : wa.cell? ⟨p2, 0, none⟩ = some (.pointer o3) := (by rw [t2.cell]; rfl); have g1 : wa.cell? ⟨p2, 1, none⟩ = some (.int .i64 1) := (by rw [t2.cell]; rfl); have g2 : wa.cell? ⟨p2, 2, none⟩ = some (.int .i64 1) := (by rw [t2.cell]; rfl); clear t1 t2 t3
  go_wp2_with fail
  refine (CL1.out _ da).mono ?_
  rintro e wb ⟨rfl, db⟩
  have db' := da.trans (db.mono da.size)
  obtain ⟨t1, t2, t3⟩ := HC.out _ db'; have f0 : wb.cell? ⟨p1, 0, none⟩ = some (.pointer o1) := (by rw [t1.cell]; rfl); have f1 : wb.cell? ⟨p1, 1, none⟩ = some (.int .i64 0) := (by rw [t1.cell]; rfl); have f2 : wb.cell? ⟨p1, 2, none⟩ = some (.int .i64 1) := (by rw [t1.cell]; rfl); have g0 : wb.cell? ⟨p2, 0, none⟩ = some (.pointer o3) := (by rw [t2.cell]; rfl); have g1 : wb.cell? ⟨p2, 1, none⟩ = some (.int .i64 1) := (by rw [t2.cell]; rfl); have g2 : wb.cell? ⟨p2, 2, none⟩ = some (.int .i64 1) := (by rw [t2.cell]; rfl); clear t1 t2 t3
  go_wp2_with fail
  refine (CL2.out _ db').mono ?_
  rintro e wc ⟨rfl, dc⟩
  have dc' := db'.trans (dc.mono db'.size)
  obtain ⟨t1, t2, t3⟩ := HC.out _ dc'; have f0 : wc.cell? ⟨p1, 0, none⟩ = some (.pointer o1) := (by rw [t1.cell]; rfl); have f1 : wc.cell? ⟨p1, 1, none⟩ = some (.int .i64 0) := (by rw [t1.cell]; rfl); have f2 : wc.cell? ⟨p1, 2, none⟩ = some (.int .i64 1) := (by rw [t1.cell]; rfl); have g0 : wc.cell? ⟨p2, 0, none⟩ = some (.pointer o3) := (by rw [t2.cell]; rfl); have g1 : wc.cell? ⟨p2, 1, none⟩ = some (.int .i64 1) := (by rw [t2.cell]; rfl); have g2 : wc.cell? ⟨p2, 2, none⟩ = some (.int .i64 1) := (by rw [t2.cell]; rfl); clear t1 t2 t3
  go_wp2_with fail
  refine (CR.out _ dc').mono ?_
  rintro e wd ⟨rfl, dd⟩
  have dd' := dc'.trans (dd.mono dc'.size)
  go_wp2_with fail
  refine (CNI.out _).mono ?_
  rintro e we ⟨rfl, de⟩
  have de' := dd'.trans (de.mono dd'.size)
  go_wp2_with fail
  refine (CRI.out _).mono ?_
  rintro e wf ⟨rfl, df⟩
  have df' := de'.trans (df.mono de'.size)
  go_wp2_with fail
  go_ret
  exact ⟨rfl, B9.out.trans (df'.mono B9.out.size)⟩
end Go.Proofs.Ytdpgpdadgcogjaa
