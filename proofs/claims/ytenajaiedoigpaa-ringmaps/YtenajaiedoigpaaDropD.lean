/- The contract of Drop of rings of numbers. -/
import Derived.Test.YtenajaiedoigpaaDropC
namespace Go.Proofs.Ytenajaiedoigpaa
open Go.RowKit Go.Lib Plain RI

theorem run_eql_func {P : Program} {t : TypeId} {a b : Array TypeId} {c : Bool} (hp : P.underlying t = some (.func a b c)) (f : Fn) (x y : Array Value) (w : World) : (binOp .eql t (.func f x y) .nilFunc).run P w = .ok (.bool false) w := by
  have h : ∀ d : Nat, (Op.equalIn (d + 1) t (.func f x y) .nilFunc).run P w = .ok false w := fun d => by simp [Op.equalIn, run_underlying hp]
  simp only [binOp]
  simp [Op.equal, Op.maxDepth, h 9999]
theorem run_eql_nilFunc {P : Program} {t : TypeId} {a b : Array TypeId} {c : Bool} (hp : P.underlying t = some (.func a b c)) (w : World) : (binOp .eql t .nilFunc .nilFunc).run P w = .ok (.bool true) w := by
  have h : ∀ d : Nat, (Op.equalIn (d + 1) t .nilFunc .nilFunc).run P w = .ok true w := fun d => by simp [Op.equalIn, run_underlying hp]
  simp only [binOp]
  simp [Op.equal, Op.maxDepth, h 9999]
set_option maxHeartbeats 400000 in
theorem drop_nil (F : Value) (w : World) : Calls Try.prog 19 #[.pointer none, F] w fun e w' => e = .returned (.int .i64 0) ∧ w = w' := by
  go_enter Try.func19, Try.ntmps19
  go_wp2
  go_ret
  exact ⟨rfl, rfl⟩
set_option maxHeartbeats 400000 in
theorem drop_nilf (p : Nat) (w : World) : Calls Try.prog 19 #[.pointer (some ⟨p, 0, none⟩), .nilFunc] w fun e w' => e = .returned (.int .i64 0) ∧ w = w' := by
  have hfe := run_eql_nilFunc (P := Try.prog) Try.underlying28
  go_enter Try.func19, Try.ntmps19
  go_wp2
  go_ret
  exact ⟨rfl, rfl⟩
/-- what stays -/
def stays (by_ : Int) (its : List (Int × Nat)) : List (Int × Nat) := its.filter (fun x => !oddB by_ x.1)
theorem stays_goes {its : List (Int × Nat)} {m : Nat} (h : Asc its m) (by_ : Int) : its.filter (fun x => !goes (ofNats (nums its (oddB by_))) x) = stays by_ its := by
  unfold stays
  apply List.filter_congr
  intro x hx
  have := mem_nums h (oddB by_) hx
  have e : goes (ofNats (nums its (oddB by_))) x = oddB by_ x.1 := by
    unfold goes
    rw [Bool.eq_iff_iff, decide_eq_true_eq, mem_ofNats]
    exact this
  rw [e]
/-- what Drop does -/
def DropTo (w : World) (B p room : Nat) (its : List (Int × Nat)) (m : Nat) (by_ : Int) (e : Ending) (w' : World) : Prop :=
  e = .returned (.int .i64 ((its.length : Int) - ((stays by_ its).length : Int))) ∧ RAt (two (Value.int .i64)) 68 70 w' B p room (stays by_ its) m ∧ Chg w w' (RBlk 68 70 w B)
set_option maxRecDepth 100000 in
set_option maxHeartbeats 1600000 in
theorem drop_st {w : World} {B p f L cap n room m : Nat} {v : Value} {pl : Nat → Int × Nat} (h : RSt (two (Value.int .i64)) 68 70 w B p v f L cap n room m pl) (by_ : Int) (h1 : 2 ≤ by_) (h2 : by_ ≤ 4) (hB : B ≤ w.heap.size) :
    Calls Try.prog 19 #[.pointer (some ⟨p, 0, none⟩), fodd by_] w (DropTo w B p room (rd pl f L n) m by_) := by
  have hmf : ∀ (fn : Fn) (first cap : Array Value) (w : World), (Instr.makeFunc fn first cap).run Try.prog w = .ok (.func fn first cap) w := fun _ _ _ _ => rfl
  have hfe := run_eql_func Try.underlying28 (.func 20) #[.agg #[.int .i64 by_]] #[]
  have cc := chosen_st h by_ h1 h2
  have hnL := h.nl; have hLr := h.lr; have hrm := h.rm
  have hasc := h.asc
  have hg := stays_goes hasc by_
  have hso := ofNats_sorted (nums_sorted hasc (oddB by_))
  have hfew : (ofNats (nums (rd pl f L n) (oddB by_))).length ≤ 100000 := by
    rw [ofNats_length]
    have := nums_length (rd pl f L n) (oddB by_)
    rw [rd_length] at this
    omega
  have hlen : (stays by_ (rd pl f L n)).length ≤ n := by
    unfold stays
    have := List.length_filter_le (fun x : Int × Nat => !oddB by_ x.1) (rd pl f L n)
    rw [rd_length] at this
    exact this
  have has : Asc (stays by_ (rd pl f L n)) m := hasc.filter _
  unfold DropTo
  rw [rd_length]
  generalize hns : ofNats (nums (rd pl f L n) (oddB by_)) = ns at *
  have H := Lib.hid h; have CC := Lib.hid cc; have HG := Lib.hid hg; have HSO := Lib.hid hso; have HFEW := Lib.hid hfew; have HAS := Lib.hid has
  clear h cc hg hso hfew hasc has hns
  unfold fodd at CC ⊢
  go_enter Try.func19, Try.ntmps19
  go_wp2_with fail
  refine CC.out.mono ?_
  rintro e w1 ⟨vl, rfl, ho1, hb1⟩
  have hs1 := hb1.size
  obtain ⟨O, la, lb, rfl⟩ : ∃ O la lb, vl = .slice O la lb := by
    rcases ho1.form with rfl | ⟨g, c, rfl⟩
    · exact ⟨_, _, _, rfl⟩
    · exact ⟨_, _, _, rfl⟩
  have b2 : Below w1.heap.size w1 (w1.alloc (.cells #[.slice O la lb] 30)) := (Below.refl _ _).alloc (Nat.le_refl _) _
  have r2 := (H.out.below hb1).below b2
  have c2 := r2.f2
  have d2 : DVar (w1.alloc (.cells #[.slice O la lb] 30)) w1.heap.size w.heap.size (.slice O la lb) ns := ⟨At.new w1 30 _, ho1.below b2, HSO.out, HFEW.out⟩
  have cw := RI.row_any r2 n (by omega) (Nat.le_refl _)
  have bb := hb1.trans (b2.mono hs1)
  have hvl : ∀ k, (Value.slice O la lb).ownBlock = some k → k < (w1.alloc (.cells #[.slice O la lb] 30)).heap.size := fun k hk => by have := (ho1.lt hk).2; simp; omega
  have R2 := Lib.hid r2; have D2 := Lib.hid d2; have CW := Lib.hid cw; have BB := Lib.hid bb; have HVL := Lib.hid hvl
  clear r2 d2 cw bb hvl ho1 hb1 b2 CC
  have hh : w1.heap.size < (w1.alloc (.cells #[.slice O la lb] 30)).heap.size := by simp
  go_wp2_with fail
  refine CW.out.mono ?_
  rintro e w3 ⟨rfl, hp3, hb3⟩
  have r3 := R2.out.below hb3
  have d3 := D2.out.below hb3
  have cd := delete_any d3 hp3 (by omega) (by omega) (fun e => by have := HVL.out _ e; omega)
  have hf3 : front (straight pl f L n (0, 0)) n = rd pl f L n := by rw [← rd_front _ n n (Nat.le_refl _)]; exact rd_straight pl f L n n _ (Nat.le_refl _)
  have hBR : B ≤ (w1.alloc (.cells #[.slice O la lb] 30)).heap.size := by have := hh; omega
  have hpR : p < (w1.alloc (.cells #[.slice O la lb] 30)).heap.size := R2.out.at_.lt
  have bb3 := BB.out.trans (hb3.mono BB.out.size)
  have hRw : w.heap.size ≤ (w1.alloc (.cells #[.slice O la lb] 30)).heap.size := BB.out.size
  have R3 := Lib.hid r3; have CD := Lib.hid cd; have HF3 := Lib.hid hf3; have BB3 := Lib.hid bb3
  clear r3 d3 cd hf3 bb3 hp3 hb3 CW D2 R2 BB HVL c2
  unfold fdel at CD
  unfold DelTo at CD
  rw [HF3.out, HG.out] at CD
  generalize (w1.alloc (.cells #[.slice O la lb] 30)).heap.size = R at *
  go_wp2_with fail
  refine CD.out.mono ?_
  rintro e w4 ⟨pl4, rfl, hp4, hf4, hc4⟩
  have b34 : Below w.heap.size w3 w4 := hc4.toBelow BB3.out.size (fun k hk e => by omega)
  have b4 : Below w.heap.size w w4 := BB3.out.trans b34
  have r4 := H.out.below b4
  have hk4 : rd pl4 0 (stays by_ (rd pl f L n)).length (stays by_ (rd pl f L n)).length = stays by_ (rd pl f L n) := by rw [rd_front _ _ _ (Nat.le_refl _)]; exact hf4
  have has := HAS.out
  rw [← hk4] at has
  have hfin := fun w5 e => settled (u := .slice (some ⟨R, 0, none⟩) (stays by_ (rd pl f L n)).length n) (k := (stays by_ (rd pl f L n)).length) r4 w5 e (.inr ⟨R, rfl, hBR, hp4⟩) hlen (by omega) (Nat.le_refl _) has
  have cs := settle_any r4 (u := .slice (some ⟨R, 0, none⟩) (stays by_ (rd pl f L n)).length n) (k := (stays by_ (rd pl f L n)).length) (.inr ⟨_, _, _, rfl⟩)
  have hfin2 : ∀ w5, w5 = ((w4.setCell ⟨p, 0, none⟩ (.slice (some ⟨R, 0, none⟩) (stays by_ (rd pl f L n)).length n)).setCell ⟨p, 1, none⟩ (.int .i64 0)).setCell ⟨p, 2, none⟩ (.int .i64 ((stays by_ (rd pl f L n)).length : Int)) → RAt (two (Value.int .i64)) 68 70 w5 B p room (stays by_ (rd pl f L n)) m ∧ Chg w w5 (RBlk 68 70 w B) := fun w5 e => ⟨⟨_, _, _, _, _, _, (hfin w5 e).1, hk4⟩, below_rchg b4 (hfin w5 e).2⟩
  have HFIN := Lib.hid hfin2; have CS := Lib.hid cs
  clear r4 hk4 has hfin hfin2 cs b34 b4 hp4 hf4 hc4 CD R3 HF3 BB3 HAS HG
  generalize hst : stays by_ (rd pl f L n) = st at *
  have HST := Lib.hid hst; clear hst
  go_wp2_with fail
  refine CS.out.mono ?_
  rintro e w5 ⟨rfl, h5⟩
  have F5 := Lib.hid (HFIN.out w5 h5); clear h5
  go_wp2_with fail
  go_ret
  rw [HST.out]
  exact ⟨rfl, F5.out⟩
theorem drop_any {w : World} {B p room m : Nat} {its : List (Int × Nat)} (h : RAt (two (Value.int .i64)) 68 70 w B p room its m) (by_ : Int) (h1 : 2 ≤ by_) (h2 : by_ ≤ 4) (hB : B ≤ w.heap.size) :
    Calls Try.prog 19 #[.pointer (some ⟨p, 0, none⟩), fodd by_] w (DropTo w B p room its m by_) := by
  obtain ⟨v, f, L, cap, n, pl, h, rfl⟩ := h
  exact drop_st h by_ h1 h2 hB
end Go.Proofs.Ytenajaiedoigpaa
