/- The contract of List of rings of texts. -/
import Derived.Test.YtenajaiedoigpaaRSB
namespace Go.Proofs.Ytenajaiedoigpaa.RS
open Go.RowKit Go.Lib Plain

/-- a row of which the first j are these things -/
def Row (w : World) (G n j : Nat) (xs : List ByteArray) : Prop :=
  ∃ arr : Array Value, At w G 9 arr ∧ arr.size = n ∧ ∀ i x, i < j → xs[i]? = some x → arr[i]? = some (.string x)
section
variable {w : World} {B p f L cap n room m : Nat} {v : Value} {pl : Nat → ByteArray × Nat} {its : List (ByteArray × Nat)}
theorem Row.put {G j : Nat} {xs : List ByteArray} {x : ByteArray} (h : Row w G n j xs) (hj : j < n) (hx : xs[j]? = some x) : Row (w.setCell ⟨G, j, none⟩ (.string x)) G n (j + 1) xs := by
  obtain ⟨arr, ha, hz, hc⟩ := h
  refine ⟨_, ha.set _ _, by simpa using hz, fun i y hi hy => ?_⟩
  by_cases e : i = j
  · subst e
    rw [hx] at hy
    obtain rfl := Option.some.inj hy
    rw [Array.getElem?_setIfInBounds_self_of_lt (by omega)]
  · rw [Array.getElem?_setIfInBounds_ne (by omega)]
    exact hc i y (by omega) hy
theorem made_row (n : Nat) (hn : n ≤ 65536) : ∃ M : Array Value, M.size = n ∧ ∀ W : World, (Instr.makeSlice 64 (.int .i64 (n : Int)) (.int .i64 (n : Int))).run Try.prog W = .ok (.slice (some ⟨W.heap.size, 0, none⟩) n n) (W.alloc (.cells M 9)) := by
  obtain ⟨i, hi, hz0, hz1, hz2⟩ := info_parts (show (Try.prog.info? 9).map (fun i => (i.zero, i.size, i.bytes)) = some (some (.string ⟨#[]⟩), 1, 16) by kernel_rfl)
  refine ⟨madeCells (.string ⟨#[]⟩ : Value).cells (n * 1), by rw [size_madeCells]; omega, fun W => ?_⟩
  have h := run_make (P := Try.prog) W 64 9 i (.string ⟨#[]⟩) Try.underlying64 hi hz0 .i64 .i64 (n : Int) (n : Int) (by omega) (by omega) (by rw [hz2]; omega) (by omega)
  rw [hz1] at h
  simpa using h
set_option maxRecDepth 100000 in
set_option maxHeartbeats 800000 in
theorem list_st (h : RSt (two Value.string) 91 95 w B p v f L cap n room m pl) :
    Calls Try.prog 33 #[.pointer (some ⟨p, 0, none⟩)] w fun e w' => e = .returned (.slice (some ⟨w.heap.size, 0, none⟩) n n) ∧ Row w' w.heap.size n n ((rd pl f L n).map (·.1)) ∧ Below w.heap.size w w' := by
  have hnL := h.nl; have hLr := h.lr; have hrm := h.rm
  obtain ⟨M, hM, hmk⟩ := made_row n (by omega)
  have cl := len_st h
  have hr0 : Row (w.alloc (.cells M 9)) w.heap.size n 0 ((rd pl f L n).map (·.1)) := ⟨M, At.new w 9 M, hM, fun i x hi => absurd hi (by omega)⟩
  have lp := h.at_.lt
  have H := Lib.hid h; have HR0 := Lib.hid hr0; have CL := Lib.hid cl; clear h hr0 hM cl
  go_enter Try.func33, Try.ntmps33
  go_wp2_with fail
  refine CL.out.mono ?_
  rintro e w0 ⟨rfl, rfl⟩
  go_wp2_with fail
  go_loopg [10, 4] n (fun gh s10 s4 wx => ∃ j : Nat, j ≤ n ∧ gh = n - j ∧ s10 = .int .i64 (j : Int) ∧ Row wx w.heap.size n j ((rd pl f L n).map (·.1)) ∧ Below w.heap.size w wx)
  case atStart => exact ⟨0, Nat.zero_le _, rfl, rfl, HR0.out, (Below.refl _ _).alloc (Nat.le_refl _) _⟩
  case round =>
    obtain ⟨j, hj, hg, rfl, hrw, hb⟩ := hrel
    have HG := Lib.hid hg; have HRW := Lib.hid hrw; have HB := Lib.hid hb; clear hg hrw hb HR0
    by_cases hlt : j < n
    · have hr := H.out.below HB.out
      obtain ⟨g, rfl, hBg, hpg⟩ := hr.some_row (by omega)
      have hl : (f + j) % L < L := Nat.mod_lt _ (by omega)
      have hlc := hr.lc
      have ca := at_any (k := j) hr (by omega) (by omega)
      have k0 := hpg.c0 (i := (f + j) % L) (by omega); have k1 := hpg.c1 (i := (f + j) % L) (by omega)
      obtain ⟨arr, ha, hz, _⟩ := id HRW.out
      have q0 : wr.cell? ⟨w.heap.size, j, none⟩ = some (arr[j]'(by omega)) := by rw [ha.cell]; exact Array.getElem?_eq_getElem (by omega)
      have z0 := ha.frozen j
      have hx : ((rd pl f L n).map (·.1))[j]? = some (pl ((f + j) % L)).1 := by rw [List.getElem?_map, rd_get _ _ _ _ _ hlt]; rfl
      have b1 : (0 : Int) ≤ (j : Int) := by omega
      have b2 : (j : Int) < (n : Int) := by omega
      have HX := Lib.hid hx; have CA := Lib.hid ca; clear ca hx hpg hr ha
      generalize (f + j) % L = q at *
      obtain ⟨⟨y, ny⟩, hy⟩ : ∃ y, pl q = y := ⟨_, rfl⟩
      rw [hy] at k0 k1
      rw [hy] at HX
      clear hy
      go_wp2_with fail
      refine CA.out.mono ?_
      rintro e w2 ⟨rfl, nq, rfl⟩
      go_wp2_with fail
      go_roundg (n - (j + 1))
      case measure => have := HG.out; omega
      case rel =>
        refine ⟨j + 1, by omega, rfl, by go_num, ?_, ?_⟩
        · exact Row.put (w := wr.drewN nq) HRW.out hlt HX.out
        · have hbd : Below w.heap.size w (wr.drewN nq) := below_drewN HB.out nq
          exact hbd.setCell (Nat.le_refl _) _
    · obtain rfl : j = n := by omega
      go_wp2_with fail
      go_ret
      exact ⟨rfl, HRW.out, HB.out⟩
theorem list_any (h : RAt (two Value.string) 91 95 w B p room its m) :
    Calls Try.prog 33 #[.pointer (some ⟨p, 0, none⟩)] w fun e w' => e = .returned (.slice (some ⟨w.heap.size, 0, none⟩) its.length its.length) ∧ Row w' w.heap.size its.length its.length (its.map (·.1)) ∧ Below w.heap.size w w' := by
  obtain ⟨v, f, L, cap, n, pl, h, rfl⟩ := h
  rw [rd_length]
  exact list_st h
end
end Go.Proofs.Ytenajaiedoigpaa.RS
