/- A call goes on by its rows alone: what holds behind every deed, as plain facts. -/
import Derived.Test.YtdchokeihnoepaaArgs
namespace Go.Proofs.Ytdchokeihnoepaa
open Go.RowKit Go.Lib
set_option linter.unusedVariables false
set_option linter.unusedSimpArgs false

/-- what holds of a call behind any row of deeds -/
structure Inv (c : Cfg) (x y : K) : Prop where
  id : y.id = 1
  kind : y.kind = x.kind
  own : y.own = 2
  born : y.born = 3
  dto : y.dto = x.dto
  st : 1 ≤ y.st ∧ y.st ≤ 6
  frm : x.kind ≠ 3 → 1 ≤ y.frm ∧ y.frm ≤ c.get 0
  goal : x.kind = 3 ∨ x.kind = 4 → 1 ≤ x.dto ∧ x.dto ≤ c.get 0
  ride : y.st = 3 → x.kind = 4
  car : y.st = 2 ∨ y.st = 3 → 1 ≤ y.car ∧ y.car ≤ c.get 1
  wait : y.st = 1 → x.kind ≠ 3 → y.car = 0
def Good (c : Cfg) (x y z : K) : Prop := Inv c x z ∧ mayK c y z = true ∧ livesK y = true
/-- a deed's answer: refused, or gone on -/
def Fair (c : Cfg) (x y : K) (r : K × Int) : Prop := (r.2 ≠ 0 ∧ r.1 = zk) ∨ (r.2 = 0 ∧ Good c x y r.1)
theorem st_1 : (1 : Int) ≤ 1 ∧ (1 : Int) ≤ 6 := by decide
theorem st_2 : (1 : Int) ≤ 2 ∧ (2 : Int) ≤ 6 := by decide
theorem st_3 : (1 : Int) ≤ 3 ∧ (3 : Int) ≤ 6 := by decide
theorem isB_in {c : Cfg} {k : Nat} {n : Int} (h : isB c k n = true) : 1 ≤ n ∧ n ≤ c.get k := by
  simp [isB] at h; exact h.1
section
variable {c : Cfg} {x y : K}
theorem hit_of {b : K} {j : Nat} (h : stepK c y b j = (b, 0)) : hit c y b j = true := by
  simp [hit, h, K.beq_self]
theorem Inv.floor1 (hok : okc c = true) : isB c 0 1 = true := by
  have h0 : (2 : Int) ≤ c.get 0 ∧ c.get 0 ≤ 32 := ok_at hok (by decide)
  exact (isB_iff hok).2 ⟨by omega, by omega⟩
theorem lives_st (h : y.st = 1 ∨ y.st = 2 ∨ y.st = 3) : livesK y = true := by simp [livesK, h]
/-- the same, with another state that is over -/
theorem Inv.over (h : Inv c x y) {n : Int} (hn : 4 ≤ n ∧ n ≤ 6) : Inv c x { y with st := n } :=
  ⟨h.id, h.kind, h.own, h.born, h.dto, ⟨by show 1 ≤ n; omega, by show n ≤ 6; omega⟩, h.frm, h.goal, fun e => by have : n = 3 := e; omega, fun e => by rcases e with e | e <;> (have : n = _ := e; omega), fun e => by have : n = 1 := e; omega⟩
theorem Inv.free (h : Inv c x y) (hn : 4 ≤ y.st) : Inv c x (kfree y) := by
  unfold kfree
  split
  · exact h
  · exact ⟨h.id, h.kind, h.own, h.born, h.dto, h.st, h.frm, h.goal, h.ride, fun e => by rcases e with e | e <;> (simp at e; omega), fun e => by simp at e; omega⟩
/-- Pending again, from a floor -/
theorem Inv.left (h : Inv c x y) {n : Int} (hn : x.kind ≠ 3 → 1 ≤ n ∧ n ≤ c.get 0) : Inv c x (kfree { y with frm := n, st := 1 }) := by
  unfold kfree
  split
  · rename_i h3
    have h3 : y.kind = 3 := h3
    have hx : x.kind = 3 := by rw [← h.kind]; exact h3
    exact ⟨h.id, h.kind, h.own, h.born, h.dto, st_1, fun e => absurd hx e, h.goal, fun e => by simp at e, fun e => by simp at e, fun _ e => absurd hx e⟩
  · exact ⟨h.id, h.kind, h.own, h.born, h.dto, st_1, hn, h.goal, fun e => by simp at e, fun e => by simp at e, fun _ _ => rfl⟩
theorem fair_assign (hok : okc c = true) (h : Inv c x y) (n : Int) : Fair c x y (assignK c y n) := by
  by_cases h1 : y.st = 1
  · by_cases h2 : isB c 1 n = true ∧ (y.kind = 3 → y.car = n)
    · have e : assignK c y n = ({ y with st := 2, car := n }, 0) := assign_yes h1 h2.1 h2.2
      rw [e]
      refine .inr ⟨rfl, ⟨h.id, h.kind, h.own, h.born, h.dto, st_2, h.frm, h.goal, fun e => by simp at e, fun _ => isB_in h2.1, fun e => by simp at e⟩, may_hit hok (j := 0) (by decide) (hit_of e), lives_st (.inl h1)⟩
    · rw [assign_no h1 h2]; exact .inl ⟨by decide, rfl⟩
  · rw [assign_st h1]; exact .inl ⟨by decide, rfl⟩
theorem fair_serve (hok : okc c = true) (h : Inv c x y) : Fair c x y (serveK y) := by
  by_cases h1 : y.st = 3 ∨ y.st = 2 ∧ y.kind ≠ 4
  · have e : serveK y = ({ y with st := 4 }, 0) := if_pos h1
    rw [e]
    exact .inr ⟨rfl, h.over (by decide), may_hit hok (j := 4) (by decide) (hit_of e), lives_st (by omega)⟩
  · have e : serveK y = (zk, 7) := if_neg h1
    rw [e]; exact .inl ⟨by decide, rfl⟩
theorem fair_board (hok : okc c = true) (h : Inv c x y) : Fair c x y (boardK y) := by
  by_cases h1 : y.st = 2 ∧ y.kind = 4
  · have e : boardK y = ({ y with st := 3 }, 0) := if_pos h1
    rw [e]
    refine .inr ⟨rfl, ⟨h.id, h.kind, h.own, h.born, h.dto, st_3, h.frm, h.goal, fun _ => by rw [← h.kind]; exact h1.2, fun _ => h.car (.inl h1.1), fun e => by simp at e⟩, may_hit hok (j := 3) (by decide) (hit_of e), lives_st (by omega)⟩
  · have e : boardK y = (zk, 7) := if_neg h1
    rw [e]; exact .inl ⟨by decide, rfl⟩
theorem fair_cancel (hok : okc c = true) (h : Inv c x y) : Fair c x y (cancelK y) := by
  by_cases h1 : y.st = 1 ∨ y.st = 2
  · have e : cancelK y = ({ y with st := 5 }, 0) := if_pos h1
    rw [e]
    exact .inr ⟨rfl, h.over (by decide), may_hit hok (j := 5) (by decide) (hit_of e), lives_st (by omega)⟩
  · have e : cancelK y = (zk, 7) := if_neg h1
    rw [e]; exact .inl ⟨by decide, rfl⟩
theorem fair_expire (hok : okc c = true) (h : Inv c x y) : Fair c x y (expireK y) := by
  by_cases h1 : y.st = 1
  · have e : expireK y = (kfree { y with st := 6 }, 0) := if_pos h1
    rw [e]
    exact .inr ⟨rfl, (h.over (n := 6) (by decide)).free (by show (4 : Int) ≤ 6; decide), may_hit hok (j := 6) (by decide) (hit_of e), lives_st (.inl h1)⟩
  · have e : expireK y = (zk, 7) := if_neg h1
    rw [e]; exact .inl ⟨by decide, rfl⟩
theorem kfree_frm (y : K) : (kfree y).frm = y.frm := by unfold kfree; split <;> rfl
theorem fair_leave (hok : okc c = true) (h : Inv c x y) (n : Int) : Fair c x y (leaveK c y n) := by
  by_cases h1 : y.st = 2 ∨ y.st = 3
  · cases h2 : isB c 0 n
    · rw [leave_no h1 h2]; exact .inl ⟨by decide, rfl⟩
    · by_cases h3 : y.st = 3
      · by_cases h4 : y.dto = n
        · rw [leave_there h3 h2 h4]; exact fair_serve hok h
        · have e := leave_rode h3 h2 h4
          have e2 : leaveK c y (kfree { y with frm := n, st := 1 }).frm = (kfree { y with frm := n, st := 1 }, 0) := by rw [kfree_frm]; exact e
          rw [e]
          exact .inr ⟨rfl, h.left (fun _ => isB_in h2), may_hit hok (j := 1) (by decide) (hit_of e2), lives_st (by omega)⟩
      · have h5 : y.st = 2 := by omega
        have e := leave_waits (n := n) h5 h2
        have e2 : leaveK c y 1 = (kfree { y with st := 1 }, 0) := leave_waits h5 (Inv.floor1 hok)
        rw [e]
        exact .inr ⟨rfl, h.left (n := y.frm) h.frm, may_hit hok (j := 2) (by decide) (hit_of e2), lives_st (by omega)⟩
  · rw [leave_st h1]; exact .inl ⟨by decide, rfl⟩
/-- where it is to be met is a floor -/
theorem Inv.met (h : Inv c x y) (h1 : x.kind = 1 ∨ x.kind = 2 ∨ x.kind = 3 ∨ x.kind = 4) : 1 ≤ goalK y ∧ goalK y ≤ c.get 0 := by
  unfold goalK
  split
  · rename_i e
    rw [h.dto]
    refine h.goal ?_
    rcases e with e | e
    · exact .inl (by rw [← h.kind]; exact e)
    · exact .inr (h.ride e)
  · rename_i e
    exact h.frm (fun e2 => e (.inl (by rw [h.kind]; exact e2)))
end
theorem ask_kind {c : Cfg} {x : K} (h : askK c x = true) : x.kind = 1 ∨ x.kind = 2 ∨ x.kind = 3 ∨ x.kind = 4 := by
  by_cases h1 : x.kind = 1
  · exact .inl h1
  · by_cases h2 : x.kind = 2
    · exact .inr (.inl h2)
    · by_cases h3 : x.kind = 3
      · exact .inr (.inr (.inl h3))
      · by_cases h4 : x.kind = 4
        · exact .inr (.inr (.inr h4))
        · rw [ask_0 h1 h2 h3 h4] at h; exact absurd h (by decide)
theorem ask_frm {c : Cfg} {x : K} (h : askK c x = true) (h3 : x.kind ≠ 3) : 1 ≤ x.frm ∧ x.frm ≤ c.get 0 := by
  rcases ask_kind h with h1 | h1 | h1 | h1
  · rw [ask_1 h1] at h; simp [ask1] at h; exact isB_in h.1.2
  · rw [ask_2 h1] at h; simp [ask2] at h; exact isB_in h.1.2
  · exact absurd h1 h3
  · rw [ask_4 h1] at h; simp [ask4] at h; exact isB_in h.1.1.2
theorem ask_dto {c : Cfg} {x : K} (h : askK c x = true) (h3 : x.kind = 3 ∨ x.kind = 4) : 1 ≤ x.dto ∧ x.dto ≤ c.get 0 := by
  rcases h3 with h1 | h1
  · rw [ask_3 h1] at h; simp [ask3] at h; exact isB_in h.1.2
  · rw [ask_4 h1] at h; simp [ask4] at h; exact isB_in h.1.2
theorem Inv.new {c : Cfg} {x : K} (h : askK c x = true) : Inv c x { x with id := 1, own := 2, born := 3, st := 1 } :=
  ⟨rfl, rfl, rfl, rfl, rfl, st_1, ask_frm h, ask_dto h, fun e => by simp at e, fun e => by simp at e, fun _ h3 => ask_car (x := x) h h3⟩

/-- the state of a round: the building, the call that was asked, the call as it stands -/
structure GSt (w wx : World) (pC pX pY : Nat) (c : Cfg) (x y : K) : Prop where
  bel : Below w.heap.size w wx
  cat : CAt wx pC c
  x_ : KAt wx pX x
  y_ : KAt wx pY y
  ge : w.heap.size ≤ pY
  ne : pX ≠ pY
theorem GSt.step {w wx wy : World} {pC pX pY : Nat} {c : Cfg} {x y : K} (h : GSt w wx pC pX pY c x y) (hb : Below wx.heap.size wx wy) : GSt w wy pC pX pY c x y :=
  ⟨h.bel.trans (hb.mono h.bel.size), h.cat.step hb, h.x_.step hb, h.y_.step hb, h.ge, h.ne⟩
theorem At.setRow_far {w : World} {g p : Nat} {t : TypeId} {cs : Array Value} (h : At w g t cs) (hne : g ≠ p) (ds : Array Value) : At (w.setRow p ds) g t cs := (setRow_other w p g ds hne).trans h
theorem GSt.setY {w wx : World} {pC pX pY : Nat} {c : Cfg} {x y : K} (h : GSt w wx pC pX pY c x y) (z : K) : GSt w (wx.setRow pY z.cells) pC pX pY c x z :=
  ⟨below_setRow h.bel h.ge _, At.setRow_far h.cat (At.ne h.cat h.y_ (by decide)) _, At.setRow_far h.x_ h.ne _, KAt.setRow h.y_ z, h.ge, h.ne⟩
/-- with the call that a deed makes -/
structure ZSt (w wx : World) (pC pX pY pZ : Nat) (c : Cfg) (x y z : K) : Prop where
  g : GSt w wx pC pX pY c x y
  z_ : KAt wx pZ z
  ge : w.heap.size ≤ pZ
  ne : pX ≠ pZ ∧ pY ≠ pZ
theorem ZSt.step {w wx wy : World} {pC pX pY pZ : Nat} {c : Cfg} {x y z : K} (h : ZSt w wx pC pX pY pZ c x y z) (hb : Below wx.heap.size wx wy) : ZSt w wy pC pX pY pZ c x y z := ⟨h.g.step hb, h.z_.step hb, h.ge, h.ne⟩
theorem ZSt.setZ {w wx : World} {pC pX pY pZ : Nat} {c : Cfg} {x y z : K} (h : ZSt w wx pC pX pY pZ c x y z) (d : K) : ZSt w (wx.setRow pZ d.cells) pC pX pY pZ c x y d :=
  ⟨⟨below_setRow h.g.bel h.ge _, At.setRow_far h.g.cat (At.ne h.g.cat h.z_ (by decide)) _, At.setRow_far h.g.x_ h.ne.1 _, At.setRow_far h.g.y_ h.ne.2 _, h.g.ge, h.g.ne⟩, KAt.setRow h.z_ d, h.ge, h.ne⟩
theorem GSt.new {w wx : World} {pC pX pY : Nat} {c : Cfg} {x y : K} (h : GSt w wx pC pX pY c x y) (z : K) : ZSt w (wx.alloc (.cells z.cells 26)) pC pX pY wx.heap.size c x y z := by
  have h2 := h.step (below_new wx (.cells z.cells 26))
  have l1 := At.lt h.x_; have l2 := At.lt h.y_
  exact ⟨h2, KAt.new wx z, h.bel.size, by omega, by omega⟩
theorem GSt.first {w wx : World} {pC pX : Nat} {c : Cfg} {x : K} (hb : Below w.heap.size w wx) (hc : CAt wx pC c) (hx : KAt wx pX x) (y : K) : GSt w (wx.alloc (.cells y.cells 26)) pC pX wx.heap.size c x y := by
  have l1 := At.lt hx
  exact ⟨hb.alloc hb.size _, hc.step (below_new _ _), hx.step (below_new _ _), KAt.new wx y, hb.size, by omega⟩
theorem deed_in (v : Int) : 0 ≤ wrap64 ((IntKind.u64.wrap v).tmod 64) ∧ wrap64 ((IntKind.u64.wrap v).tmod 64) ≤ 63 := by
  have h0 : 0 ≤ IntKind.u64.wrap v := by
    simp [IntKind.wrap, IntKind.signed, IntKind.bits]
    omega
  generalize IntKind.u64.wrap v = u at h0
  have h1 : u.tmod 64 = u % 64 := Int.tmod_eq_emod_of_nonneg h0
  rw [h1, wrap_in (by omega) (by omega)]
  omega
theorem deed_six {n : Int} (h : 0 ≤ n ∧ n ≤ 63) : n.tmod 6 = 0 ∨ n.tmod 6 = 1 ∨ n.tmod 6 = 2 ∨ n.tmod 6 = 3 ∨ n.tmod 6 = 4 ∨ n.tmod 6 = 5 := by
  rw [Int.tmod_eq_emod_of_nonneg h.1]; omega
theorem below_drop {a b : World} (h : Below a.heap.size a b) : Below a.heap.size a b := h
/-- a deed's contract, with what its answer is -/
theorem fair_as {f : Nat} {args : Array Value} {r : K × Int} {c : Cfg} {x y : K} (h : ∀ W, Calls Try.prog f args W (Ans W r)) (hr : Fair c x y r) : ∀ W, Calls Try.prog f args W fun e w' => ∃ (z : K) (m : Int), e = .returned (.tuple #[z.V, .int .i64 m]) ∧ Below W.heap.size W w' ∧ Fair c x y (z, m) := fun W => (h W).mono fun e w' ha => ⟨r.1, r.2, ha.1, ha.2, hr⟩
end Go.Proofs.Ytdchokeihnoepaa
