/- The contracts of List and Keys. -/
import Derived.Test.YtdpgpdadgcogjaaShB
namespace Go.Proofs.Ytdpgpdadgcogjaa
open Go.RowKit Go.Lib Plain
set_option linter.unusedVariables false

section
variable {w w' : World} {v : Value} {l : List KV} {room : Nat}
theorem LSt.cell {α : Type} {E : El α} {wx : World} {B j : Nat} {sv rv : Value} {ps : List (Nat × KV)} {xs : List α} (h : LSt E w wx B sv rv ps xs) (hj : j < ps.length) :
    ∃ g cap p x, sv = .slice (some ⟨g, 0, none⟩) ps.length cap ∧ ps[j]? = some (p, x) ∧ wx.cell? ⟨g, j, none⟩ = some (ptr p) ∧ PAt wx p x := by
  have hx : ps[j]? = some ps[j] := List.getElem?_eq_getElem hj
  rcases h.src.form with ⟨rfl, h0⟩ | ⟨g, cap, rfl, hc, _, _⟩
  · simp at h0; subst h0; simp at hj
  · obtain ⟨b, off, e, hb, k⟩ := h.src.rd.cellP (i := j) (p := ps[j].1) (by rw [List.getElem?_map, hx]; rfl)
    injection e with e
    injection e with e1 e2 e3
    subst e1; subst e2
    rw [Nat.zero_add] at k
    exact ⟨g, cap, ps[j].1, ps[j].2, by rw [List.length_map], hx, k, (h.at_ _ (List.getElem_mem hj)).2⟩
theorem LSt.len {α : Type} {E : El α} {wx : World} {B : Nat} {sv rv : Value} {ps : List (Nat × KV)} {xs : List α} (h : LSt E w wx B sv rv ps xs) : ∃ O cap, sv = .slice O ps.length cap := by
  rcases h.src.form with ⟨rfl, h0⟩ | ⟨g, cap, rfl, hc, _, _⟩
  · simp at h0; subst h0; exact ⟨_, _, rfl⟩
  · exact ⟨_, _, by rw [List.length_map]⟩
theorem LSt.drewN {α : Type} {E : El α} {wx : World} {B : Nat} {sv rv : Value} {ps : List (Nat × KV)} {xs : List α} (h : LSt E w wx B sv rv ps xs) (n : Nat) : LSt E w (wx.drewN n) B sv rv ps xs :=
  ⟨h.src, h.at_, h.own, below_drewN h.bel n, h.lo⟩
theorem start_lst {α : Type} {E : El α} {o : Option Addr} {N : Nat} {t : T} {M : Array Value} (ht : TAt w w.heap.size (.pointer o) t) (ho : ∀ (W : World) (B : Nat), B ≤ W.heap.size → Own E (W.alloc (.cells M E.e)) B (.slice (some ⟨W.heap.size, 0, none⟩) 0 N) []) (hn : t.kvs.length ≤ 70000) (W : World)
    (hW : W = (w.alloc (.cells #[.pointer o, .int .i64 (t.kvs.length : Int), .int .i64 (room : Int)] 26)).alloc (.cells M E.e)) :
    Calls Try.prog 32 #[.agg #[.pointer o, .int .i64 (t.kvs.length : Int), .int .i64 (room : Int)]] W fun e w' => ∃ sv, e = .returned sv ∧ LSt E w w' W.heap.size sv (.slice (some ⟨w.heap.size + 1, 0, none⟩) 0 N) t.its [] := by
  have hb : Below w.heap.size w W := by subst hW; exact ((Below.refl _ _).alloc (Nat.le_refl _) _).alloc (by simp) _
  have hown : Own E W w.heap.size (.slice (some ⟨w.heap.size + 1, 0, none⟩) 0 N) [] := by
    subst hW
    have := ho (w.alloc (.cells #[.pointer o, .int .i64 (t.kvs.length : Int), .int .i64 (room : Int)] 26)) w.heap.size (by simp)
    have e : (w.alloc (.cells #[.pointer o, .int .i64 (t.kvs.length : Int), .int .i64 (room : Int)] 26)).heap.size = w.heap.size + 1 := by simp
    rw [e] at this
    exact this
  refine (pairs_any (ht.step hb) hn).mono ?_
  rintro e w' ⟨sv, rfl, o1, b1⟩
  exact ⟨sv, rfl, o1, fun y hy => ⟨(ht.its_at y hy).1, ((ht.its_at y hy).2.step hb).step b1⟩, hown.below b1, hb.trans (b1.mono hb.size), hb.size⟩
set_option maxRecDepth 100000 in
set_option maxHeartbeats 1600000 in
/-- List: all pairs -/
theorem List_any (h : SAt w v l room) : Calls Try.prog 25 #[v] w (RPost eK w l) := by
  obtain ⟨vt, t, rfl, ht, rfl, hr, h1, h2⟩ := h
  obtain ⟨o, rfl⟩ := ht.ptr
  obtain ⟨M, hmk0, hown⟩ := made eK t.kvs.length (by omega)
  have hmk : ∀ W : World, (Instr.makeSlice 56 (.int .i64 0) (.int .i64 (t.kvs.length : Int))).run Try.prog W = .ok (.slice (some ⟨W.heap.size, 0, none⟩) 0 t.kvs.length) (W.alloc (.cells M 59)) := hmk0
  have CP := Lib.hid (start_lst (room := room) ht hown (by omega) _ rfl)
  have hle : t.its.length ≤ 70000 := by have := t.kvs_length; omega
  have HLE := Lib.hid hle
  have hkv : t.its.map (·.2) = t.kvs := rfl
  have HKV := Lib.hid hkv
  clear ht hown hmk0 hr hle hkv h1 h2
  generalize t.kvs.length = N at *
  generalize t.kvs = kk at *
  generalize t.its = ps at *
  go_enter Try.func25, Try.ntmps25
  go_wp2_with fail
  refine CP.out.mono ?_
  rintro e w2 ⟨sv, rfl, hst⟩
  obtain ⟨O, cap, rfl⟩ := hst.len
  generalize ((w.alloc (.cells #[.pointer o, .int .i64 (N : Int), .int .i64 (room : Int)] 26)).alloc (.cells M eK.e)).heap.size = B at *
  have HST := Lib.hid hst; clear hst CP hmk
  obtain ⟨n, hn⟩ : ∃ n, n = ps.length := ⟨_, rfl⟩
  rw [← hn] at HST ⊢
  have HNN := Lib.hid hn; clear hn
  go_wp2_with fail
  go_loopg [12, 3] n (fun gh s12 s3 wx => ∃ (j : Nat) (rv : Value), j ≤ n ∧ gh = n - j ∧ s12 = .int .i64 (j : Int) ∧ rv = s3 ∧ LSt eK w wx B (.slice O n cap) rv ps ((ps.take j).map (·.2)))
  case atStart => exact ⟨0, _, Nat.zero_le _, rfl, rfl, rfl, HST.out⟩
  case round =>
    obtain ⟨j, rv, hj, hg, rfl, rfl, hst⟩ := hrel
    have HG := Lib.hid hg; clear hg HST
    by_cases hlt : j < n
    · obtain ⟨g, cap', p, x, hsv, hpx, k0, kx⟩ := hst.cell (j := j) (by rw [← HNN.out]; exact hlt)
      rw [← HNN.out] at hsv
      injection hsv with e1 _ e3
      subst e1; subst e3
      have q0 := kx.c0; have q1 := kx.c1
      obtain ⟨rv', w', hr, hst'⟩ := hst.push (by decide) x (by rw [List.length_map, List.length_take]; have := HLE.out; omega) 56
      have hr2 : (Builtin.append_ #[56, 56] 56 #[rv, .slice (some ⟨wr.heap.size, 0, none⟩) 1 1]).run Try.prog (wr.alloc (.cells #[.string x.1, .int .i64 x.2] 59)) = .ok rv' w' := hr
      have HR := Lib.hid hr2; have HST2 := Lib.hid hst'
      have HPX := Lib.hid hpx
      have b3 : (j : Int) < (n : Int) := by omega
      have b4 : (0 : Int) ≤ (j : Int) := by omega
      clear hr hr2 hst hst' kx hpx
      go_wp2_with (at_builtin; (refine Lib.wpList_append_run _ rfl (.tmp 16) (.tmp 20) 56 56 rfl _ _ rfl rfl rv' w' HR.out ?_))
      go_roundg (n - (j + 1))
      case measure => have := HG.out; omega
      case rel => exact ⟨j + 1, _, by omega, rfl, (by have := HLE.out; have := HNN.out; rw [IntWalk.wrap64_in _ (by omega)]; rfl), rfl, by rw [List.take_add_one, HPX.out]; simp only [Option.toList, List.map_append]; exact HST2.out⟩
    · obtain rfl : j = n := by omega
      have HST2 := Lib.hid hst; clear hst
      go_wp2_with fail
      go_ret
      refine ⟨rv, rfl, ?_, HST2.out.bel⟩
      have := HST2.out.own
      rw [HNN.out, List.take_length, HKV.out] at this
      exact this
set_option maxRecDepth 100000 in
set_option maxHeartbeats 1600000 in
/-- Keys: all keys -/
theorem Keys_any (h : SAt w v l room) : Calls Try.prog 22 #[v] w (RPost eS w (l.map (·.1))) := by
  obtain ⟨vt, t, rfl, ht, rfl, hr, h1, h2⟩ := h
  obtain ⟨o, rfl⟩ := ht.ptr
  obtain ⟨M, hmk0, hown⟩ := made eS t.kvs.length (by omega)
  have hmk : ∀ W : World, (Instr.makeSlice 52 (.int .i64 0) (.int .i64 (t.kvs.length : Int))).run Try.prog W = .ok (.slice (some ⟨W.heap.size, 0, none⟩) 0 t.kvs.length) (W.alloc (.cells M 9)) := hmk0
  have CP := Lib.hid (start_lst (room := room) ht hown (by omega) _ rfl)
  have hle : t.its.length ≤ 70000 := by have := t.kvs_length; omega
  have HLE := Lib.hid hle
  have hkv : t.its.map (·.2) = t.kvs := rfl
  have HKV := Lib.hid hkv
  clear ht hown hmk0 hr hle hkv h1 h2
  generalize t.kvs.length = N at *
  generalize t.kvs = kk at *
  generalize t.its = ps at *
  go_enter Try.func22, Try.ntmps22
  go_wp2_with fail
  refine CP.out.mono ?_
  rintro e w2 ⟨sv, rfl, hst⟩
  obtain ⟨O, cap, rfl⟩ := hst.len
  generalize ((w.alloc (.cells #[.pointer o, .int .i64 (N : Int), .int .i64 (room : Int)] 26)).alloc (.cells M eS.e)).heap.size = B at *
  have HST := Lib.hid hst; clear hst CP hmk
  obtain ⟨n, hn⟩ : ∃ n, n = ps.length := ⟨_, rfl⟩
  rw [← hn] at HST ⊢
  have HNN := Lib.hid hn; clear hn
  go_wp2_with fail
  go_loopg [12, 3] n (fun gh s12 s3 wx => ∃ (j : Nat) (rv : Value), j ≤ n ∧ gh = n - j ∧ s12 = .int .i64 (j : Int) ∧ rv = s3 ∧ LSt eS w wx B (.slice O n cap) rv ps ((ps.take j).map (·.2.1)))
  case atStart => exact ⟨0, _, Nat.zero_le _, rfl, rfl, rfl, HST.out⟩
  case round =>
    obtain ⟨j, rv, hj, hg, rfl, rfl, hst⟩ := hrel
    have HG := Lib.hid hg; clear hg HST
    by_cases hlt : j < n
    · obtain ⟨g, cap', p, x, hsv, hpx, k0, kx⟩ := hst.cell (j := j) (by rw [← HNN.out]; exact hlt)
      rw [← HNN.out] at hsv
      injection hsv with e1 _ e3
      subst e1; subst e3
      have q0 := kx.c0; have q1 := kx.c1
      obtain ⟨rv', w', hr, hst'⟩ := hst.push (by decide) x.1 (by rw [List.length_map, List.length_take]; have := HLE.out; omega) 52
      have hr2 : (Builtin.append_ #[52, 52] 52 #[rv, .slice (some ⟨wr.heap.size, 0, none⟩) 1 1]).run Try.prog (wr.alloc (.cells #[.string x.1] 9)) = .ok rv' w' := hr
      have HR := Lib.hid hr2; have HST2 := Lib.hid hst'
      have HPX := Lib.hid hpx
      have b3 : (j : Int) < (n : Int) := by omega
      have b4 : (0 : Int) ≤ (j : Int) := by omega
      clear hr hr2 hst hst' kx hpx
      go_wp2_with (at_builtin; (refine Lib.wpList_append_run _ rfl (.tmp 16) (.tmp 21) 52 52 rfl _ _ rfl rfl rv' w' HR.out ?_))
      go_roundg (n - (j + 1))
      case measure => have := HG.out; omega
      case rel => exact ⟨j + 1, _, by omega, rfl, (by have := HLE.out; have := HNN.out; rw [IntWalk.wrap64_in _ (by omega)]; rfl), rfl, by rw [List.take_add_one, HPX.out]; simp only [Option.toList, List.map_append]; exact HST2.out⟩
    · obtain rfl : j = n := by omega
      have HST2 := Lib.hid hst; clear hst
      go_wp2_with fail
      go_ret
      refine ⟨rv, rfl, ?_, HST2.out.bel⟩
      have := HST2.out.own
      rw [HNN.out, List.take_length] at this
      rw [← HKV.out, List.map_map]
      exact this
end
end Go.Proofs.Ytdpgpdadgcogjaa
