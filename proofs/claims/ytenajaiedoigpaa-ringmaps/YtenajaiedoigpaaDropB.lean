/- The contract of chosen: the numbers of those of which the function answers true. -/
import Derived.Test.YtenajaiedoigpaaDropA
import Derived.Defers
import Derived.Recover
namespace Go.Proofs.Ytenajaiedoigpaa
open Go.RowKit Go.Lib Plain

set_option maxHeartbeats 400000 in
theorem chosen1_idle (l : Nat) (w : World) :
    CallsD Try.prog 55 #[.pointer (some ⟨l, 0, none⟩)] .returning w fun e u' w' => e = .returned (.tuple #[]) ∧ u' = .returning ∧ w' = w := by
  refine callsD_of_wpS Try.func55 rfl fun c₀ cs hu => ?_
  apply wpS_seq
  apply wpS_region
  simp [wpOpsS, go_sem, recoverD, hu, Try.ntmps55, Exit.thenS]
  refine wpS_cond (t := false) (by simp [Act.eval, Array.replicate]) ?_
  simp only [Bool.false_eq_true, if_false]
  refine wpS_of_wp (wp_skip ?_)
  cases c₀
  simp_all [bodyPostS, results, Try.results55]
/-- the numbers as the program has them -/
def ofNats (l : List Nat) : List Int := l.map fun n : Nat => (n : Int)
theorem ofNats_length (l : List Nat) : (ofNats l).length = l.length := by simp [ofNats]
theorem ofNats_snoc (l : List Nat) (n : Nat) : ofNats (l ++ [n]) = ofNats l ++ [(n : Int)] := by simp [ofNats]
theorem mem_ofNats (l : List Nat) (n : Nat) : (n : Int) ∈ ofNats l ↔ n ∈ l := by
  unfold ofNats
  rw [List.mem_map]
  constructor
  · rintro ⟨a, h, e⟩; have : a = n := by omega
    rw [← this]; exact h
  · intro h; exact ⟨n, h, rfl⟩
theorem ofNats_sorted {l : List Nat} (h : l.Pairwise (· < ·)) : (ofNats l).Pairwise (· < ·) := by
  unfold ofNats
  rw [List.pairwise_map]
  exact h.imp (fun hab => by omega)
theorem OwnI.form {w : World} {B : Nat} {v : Value} {zs : List Int} (h : OwnI w B v zs) : v = .slice none 0 0 ∨ ∃ g cap, v = .slice (some ⟨g, 0, none⟩) zs.length cap := by
  rcases h.2 with ⟨rfl, _⟩ | ⟨g, cap, cur, rfl, _⟩
  · exact .inl rfl
  · exact .inr ⟨g, cap, rfl⟩
/-- within chosen: the places in a row, the variable, and the numbers so far -/
structure CSt (w wx : World) (R n : Nat) (pl : Nat → Int × Nat) (vl : Value) (ns : List Int) : Prop where
  row : Pls (two (Value.int .i64)) 70 wx R n pl
  var : At wx w.heap.size 30 #[vl]
  own : OwnI wx w.heap.size vl ns
  bel : Below w.heap.size w wx
section
variable {w wx w1 : World} {R n : Nat} {pl : Nat → Int × Nat} {vl : Value} {ns : List Int}
theorem CSt.below (h : CSt w wx R n pl vl ns) (hb : Below wx.heap.size wx w1) : CSt w w1 R n pl vl ns :=
  ⟨h.row.below hb h.row.lt, h.var.below hb h.var.lt, h.own.below hb, h.bel.trans (hb.mono h.bel.size)⟩
theorem CSt.app {x : Int} (h : CSt w wx R n pl vl ns) (hn : ns.length ≤ 70000) :
    ∃ v' w2, (Builtin.append_ #[30, 30] 30 #[vl, .slice (some ⟨wx.heap.size, 0, none⟩) 1 1]).run Try.prog (wx.alloc (.cells #[.int .i64 x] 3)) = .ok v' w2 ∧ (∃ g cap, v' = .slice (some ⟨g, 0, none⟩) (ns.length + 1) cap) ∧
      w2.cell? ⟨w.heap.size, 0, none⟩ = some vl ∧ w2.frozen? ⟨w.heap.size, 0, none⟩ = false ∧ CSt w (w2.setCell ⟨w.heap.size, 0, none⟩ v') R n pl v' (ns ++ [x]) := by
  have hb : Below wx.heap.size wx (wx.alloc (.cells #[.int .i64 x] 3)) := (Below.refl _ _).alloc (Nat.le_refl _) _
  have h1 := h.below hb
  have hs := h.bel.size
  obtain ⟨v', w2, hr, ho, hg, hl⟩ := append_ints 30 h1.own (src_one wx x) (by simp; omega) (by simp; omega)
  have hv : At w2 w.heap.size 30 #[vl] := h1.var.chg (Chg.grown hg) (fun e => own_ne h1.own h1.var (by decide) e)
  have hrow : Pls (two (Value.int .i64)) 70 w2 R n pl := h1.row.chg (Chg.grown hg) (fun e => by
    obtain ⟨arr, ha, _⟩ := h1.row
    exact own_ne h1.own ha (by decide) e)
  refine ⟨v', w2, hr, ?_, by rw [hv.cell]; rfl, hv.frozen 0, ?_, by simpa using hv.set 0 v', ?_, ?_⟩
  · rcases ho.2 with ⟨_, h0⟩ | ⟨g, cap, cur, e, _⟩
    · simp at h0
    · exact ⟨g, cap, by rw [e]; simp⟩
  · exact hrow.far (p := ⟨w.heap.size, 0, none⟩) (hrow.ne hv (by decide)) _
  · exact own_chg ho (Chg.set (Chg.refl w2 (fun k => k = w.heap.size)) (p := ⟨w.heap.size, 0, none⟩) (fun _ => rfl) v') (fun k hk e => by subst e; exact own_ne ho hv (by decide) hk)
  · have c2 : Below w.heap.size (wx.alloc (.cells #[.int .i64 x] 3)) w2 := (Chg.grown hg).toBelow (by simp; omega) (fun k hk e => by have := (h1.own.lt e).1; omega)
    exact ((h1.bel).trans c2).setCell (Nat.le_refl _) _
end
theorem take_nums {pl : Nat → Int × Nat} {f L n j : Nat} (q : Int → Bool) (hj : j < n) : nums ((rd pl f L n).take (j + 1)) q = if q (pl ((f + j) % L)).1 = true then nums ((rd pl f L n).take j) q ++ [(pl ((f + j) % L)).2] else nums ((rd pl f L n).take j) q := by
  have : (rd pl f L n).take (j + 1) = (rd pl f L n).take j ++ [pl ((f + j) % L)] := by
    rw [List.take_add_one, rd_get _ _ _ _ _ hj]; rfl
  rw [this, nums_snoc]
set_option maxRecDepth 100000 in
set_option maxHeartbeats 1600000 in
theorem chosen_st {w : World} {B p f L cap n room m : Nat} {v : Value} {pl : Nat → Int × Nat} (h : RSt (two (Value.int .i64)) 68 70 w B p v f L cap n room m pl) (by_ : Int) (h1 : 2 ≤ by_) (h2 : by_ ≤ 4) :
    Calls Try.prog 40 #[.pointer (some ⟨p, 0, none⟩), fodd by_] w fun e w' => ∃ vl, e = .returned vl ∧ OwnI w' w.heap.size vl (ofNats (nums (rd pl f L n) (oddB by_))) ∧ Below w.heap.size w w' := by
  have hmf : ∀ (fn : Fn) (first cap : Array Value) (w : World), (Instr.makeFunc fn first cap).run Try.prog w = .ok (.func fn first cap) w := fun _ _ _ _ => rfl
  have hnL := h.nl; have hLr := h.lr; have hrm := h.rm
  have hb0 : Below w.heap.size w (w.alloc (.cells #[.slice none 0 0] 30)) := (Below.refl _ _).alloc (Nat.le_refl _) _
  have hr1 := h.below hb0
  have c2 := h.f2
  have lp := h.at_.lt
  have cw := RI.row_any hr1 n (by omega) (Nat.le_refl _)
  have av : At (w.alloc (.cells #[.slice none 0 0] 30)) w.heap.size 30 #[.slice none 0 0] := At.new w 30 _
  have H := Lib.hid h; have CW := Lib.hid cw; have AV := Lib.hid av; have HB0 := Lib.hid hb0; clear h cw hr1 av hb0
  unfold fodd
  go_enter_defers Try.func40, Try.ntmps40
  go_wp2_with fail
  refine CW.out.mono ?_
  rintro e w2 ⟨rfl, hpl2, hb2⟩
  have st0 : CSt w w2 (w.alloc (.cells #[.slice none 0 0] 30)).heap.size n (straight pl f L n (0, 0)) (.slice none 0 0) (ofNats (nums ((rd pl f L n).take 0) (oddB by_))) :=
    ⟨hpl2, AV.out.below hb2 AV.out.lt, World.ownsRow_nil _ _ _ _, HB0.out.trans (hb2.mono (by simp))⟩
  generalize (w.alloc (.cells #[.slice none 0 0] 30)).heap.size = R at *
  have ST0 := Lib.hid st0; clear st0 hpl2 hb2 CW AV HB0 c2
  go_wp2_with fail
  go_loopg [15] n (fun gh s15 wx => ∃ (j : Nat) (vl : Value), j ≤ n ∧ gh = n - j ∧ s15 = .int .i64 (j : Int) ∧ CSt w wx R n (straight pl f L n (0, 0)) vl (ofNats (nums ((rd pl f L n).take j) (oddB by_))))
  case atStart => exact ⟨0, _, Nat.zero_le _, rfl, rfl, ST0.out⟩
  case round =>
    obtain ⟨j, vl, hj, hg, rfl, hst⟩ := hrel
    have HG := Lib.hid hg; have KST := Lib.hid hst; clear hg hst ST0
    have hzl : w.heap.size < wr.heap.size := KST.out.var.lt
    by_cases hlt : j < n
    · have htk := take_nums (pl := pl) (f := f) (L := L) (oddB by_) hlt
      have k0 := KST.out.row.c0 (i := j) hlt
      have k1 := KST.out.row.c1 (i := j) hlt
      have hRl := KST.out.row.lt
      have hst : straight pl f L n (0, 0) j = pl ((f + j) % L) := if_pos hlt
      rw [hst] at k0 k1
      generalize pl ((f + j) % L) = x at *
      have cv : wr.cell? ⟨w.heap.size, 0, none⟩ = some vl := by rw [KST.out.var.cell]; rfl
      have b3 : (j : Int) < (n : Int) := by omega
      have b4 : (0 : Int) ≤ (j : Int) := by omega
      have HTK := Lib.hid htk
      clear htk hst
      cases hq : oddB by_ x.1
      · have ci := fun W => is_any by_ x.1 h1 h2 W
        rw [hq] at ci
        have CI := Lib.hid ci; have HQ := Lib.hid hq; clear ci hq
        go_wp2_with fail
        refine (CI.out _).mono ?_
        rintro e w4 ⟨rfl, hw4⟩
        have st4 : CSt w w4 R n (straight pl f L n (0, 0)) vl (ofNats (nums ((rd pl f L n).take (j + 1)) (oddB by_))) := by
          rw [HTK.out, if_neg (by rw [HQ.out]; decide), hw4]
          exact (KST.out.below ((Below.refl _ _).alloc (Nat.le_refl _) _)).below ((Below.refl _ _).alloc (Nat.le_refl _) _)
        have ST4 := Lib.hid st4; clear st4 hw4
        go_wp2_with fail
        go_roundg (n - (j + 1))
        case measure => have := HG.out; omega
        case rel => exact ⟨j + 1, vl, by omega, rfl, by go_num, ST4.out⟩
      · have ci := fun W => is_any by_ x.1 h1 h2 W
        rw [hq] at ci
        have CI := Lib.hid ci; have HQ := Lib.hid hq; clear ci hq
        go_wp2_with fail
        refine (CI.out _).mono ?_
        rintro e w4 ⟨rfl, hw4⟩
        have st4 : CSt w w4 R n (straight pl f L n (0, 0)) vl (ofNats (nums ((rd pl f L n).take j) (oddB by_))) := by
          rw [hw4]
          exact (KST.out.below ((Below.refl _ _).alloc (Nat.le_refl _) _)).below ((Below.refl _ _).alloc (Nat.le_refl _) _)
        have a4 : At w4 wr.heap.size 70 #[.int .i64 x.1, .int .i64 (x.2 : Int)] := by
          rw [hw4]; exact (At.new wr 70 _).alloc _
        have cv4 : w4.cell? ⟨w.heap.size, 0, none⟩ = some vl := by rw [st4.var.cell]; rfl
        have n4 : w4.cell? ⟨wr.heap.size, 1, none⟩ = some (.int .i64 (x.2 : Int)) := by rw [a4.cell]; rfl
        have hz4 := st4.var.lt
        have hz5 := a4.lt
        have hlenn : (ofNats (nums ((rd pl f L n).take j) (oddB by_))).length ≤ 70000 := by
          rw [ofNats_length]
          have := nums_length ((rd pl f L n).take j) (oddB by_)
          rw [List.length_take] at this
          omega
        obtain ⟨v', w5, hr, ⟨g5, cap5, rfl⟩, hc5, hf5, st5⟩ := st4.app (x := (x.2 : Int)) hlenn
        rw [← ofNats_snoc] at st5
        have hE : nums ((rd pl f L n).take j) (oddB by_) ++ [x.2] = nums ((rd pl f L n).take (j + 1)) (oddB by_) := by rw [HTK.out, if_pos HQ.out]
        rw [hE] at st5
        clear hE
        generalize (ofNats (nums ((rd pl f L n).take j) (oddB by_))).length + 1 = l5 at *
        have HR := Lib.hid hr; have ST6 := Lib.hid st5; clear hr st5 st4 a4 hw4 hlenn cv k0 k1
        go_wp2_with (at_builtin; (refine Lib.wpList_append_run _ rfl (.tmp 23) (.tmp 26) 30 30 rfl _ _ rfl rfl _ w5 HR.out ?_))
        go_roundg (n - (j + 1))
        case measure => have := HG.out; omega
        case rel => exact ⟨j + 1, _, by omega, rfl, by go_num, ST6.out⟩
    · obtain rfl : j = n := by omega
      have hown := KST.out.own
      rw [List.take_of_length_le (by rw [rd_length]; omega)] at hown
      have cv : wr.cell? ⟨w.heap.size, 0, none⟩ = some vl := by rw [KST.out.var.cell]; rfl
      have fv := KST.out.var.frozen 0
      have av := KST.out.var
      have hset : At (wr.setCell ⟨w.heap.size, 0, none⟩ vl) w.heap.size 30 #[vl] := by simpa using av.set 0 vl
      have hcell : (wr.setCell ⟨w.heap.size, 0, none⟩ vl).cell? ⟨w.heap.size, 0, none⟩ = some vl := by rw [hset.cell]; rfl
      have hfin : OwnI (wr.setCell ⟨w.heap.size, 0, none⟩ vl) w.heap.size vl (ofNats (nums (rd pl f L j) (oddB by_))) ∧ Below w.heap.size w (wr.setCell ⟨w.heap.size, 0, none⟩ vl) :=
        ⟨own_chg hown (Chg.set (Chg.refl wr (fun k => k = w.heap.size)) (p := ⟨w.heap.size, 0, none⟩) (fun _ => rfl) vl) (fun k hk e => by subst e; exact own_ne hown av (by decide) hk), KST.out.bel.setCell (Nat.le_refl _) _⟩
      have HFIN := Lib.hid hfin
      have hform := hown.form
      clear hfin hown hset av KST
      rcases hform with rfl | ⟨g, c, rfl⟩
      · go_wp2_with fail
        refine leaves_cons (f := 55) (args := #[.pointer (some ⟨w.heap.size, 0, none⟩)]) (by simp) (by simp [go_sem]) ?_
        refine (chosen1_idle w.heap.size _).mono ?_
        rintro e u' w8 ⟨rfl, rfl, rfl⟩
        simp only [Leaves, settle, results, Try.results40]
        simp [go_sem, hcell]
        exact HFIN.out
      · generalize (ofNats (nums (rd pl f L j) (oddB by_))).length = len at *
        go_wp2_with fail
        refine leaves_cons (f := 55) (args := #[.pointer (some ⟨w.heap.size, 0, none⟩)]) (by simp) (by simp [go_sem]) ?_
        refine (chosen1_idle w.heap.size _).mono ?_
        rintro e u' w8 ⟨rfl, rfl, rfl⟩
        simp only [Leaves, settle, results, Try.results40]
        simp [go_sem, hcell]
        exact HFIN.out
end Go.Proofs.Ytenajaiedoigpaa
