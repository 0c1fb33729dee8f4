/- KeysExact: the blocks of its loop. -/
import Derived.Test.YtedogbkkophghaaKyW
import Derived.Test.YtedogbkkophghaaKyO
import Derived.Test.YtedogbkkophghaaKyQ0
import Derived.Test.YtedogbkkophghaaRfA
namespace Go.Proofs.Ytedogbkkophghaa
open Go.RowKit Go.Lib
open Sh.Plain (KV get put Rise)
set_option linter.unusedVariables false
set_option linter.unusedSimpArgs false

def setL (cs : Array Value) : Nat → List Value → Array Value
  | _, [] => cs
  | o, v :: r => setL (cs.setIfInBounds o v) (o + 1) r
theorem At.setCells {g : Nat} {t : TypeId} : ∀ {vs : List Value} {o : Nat} {cs : Array Value} {w : World}, At w g t cs → At (w.setCells g o vs) g t (setL cs o vs)
  | [], o, cs, w, h => h
  | v :: r, o, cs, w, h => by
    have h2 := At.setCells (vs := r) (o := o + 1) (At.set h o v)
    exact h2
theorem setL_conf (c : Cfg) : setL (zu.cells none 0) 0 c.cells.toList = (⟨c, []⟩ : Ur).cells none 0 := by
  obtain ⟨n, s, hl⟩ := c
  match n, hl with
  | [a0, a1, a2, a3, a4, a5, a6, a7, a8, a9, a10, a11, a12, a13, a14, a15, a16], _ => show _ = _; kernel_rfl
theorem At.farCells {g q : Nat} {t : TypeId} {cs : Array Value} (hne : g ≠ q) : ∀ {vs : List Value} {o : Nat} {w : World}, At w g t cs → At (w.setCells q o vs) g t cs
  | [], o, w, h => h
  | v :: r, o, w, h => by
    have h2 := At.farCells hne (vs := r) (o := o + 1) (At.far (p := ⟨q, o, none⟩) h hne v)
    exact h2
theorem below_setCells {B q : Nat} {a : World} (hq : B ≤ q) : ∀ {vs : List Value} {o : Nat} {w : World}, Below B a w → Below B a (w.setCells q o vs)
  | [], o, w, h => h
  | v :: r, o, w, h => by
    have h2 := below_setCells hq (vs := r) (o := o + 1) (h.setCell (p := ⟨q, o, none⟩) hq v)
    exact h2
/-- keys with nothing have no tree -/
theorem YAt.nil {w : World} {b : Ky} {o : Option Addr} (h : YAt w b o) (hl : b.l = []) : o = none := by
  obtain ⟨vt, t, e, h3, h4, _⟩ := h
  rw [hl] at h4
  match t, h3, h4 with
  | .nil, h3, _ =>
    have h3 : vt = .pointer none := h3
    subst h3
    simp [sv] at e
    exact e
  | .node l p x r, _, h4 => rw [Sh.Plain.T.kvs_node] at h4; simp at h4
theorem YAt.empty {w w' : World} {b : Ky} {o : Option Addr} (h : YAt w b o) (hl : b.l = []) : YAt w' b o := by
  have hn := h.nil hl
  subst hn
  obtain ⟨vt, t, e, h3, h4, h5⟩ := h
  refine ⟨.pointer none, .nil, rfl, rfl, ?_, h5⟩
  rw [hl]; rfl
theorem make_nil (c : Cfg) : (makeK c).l = [] := by unfold makeK; split <;> rfl
/-- the building, the keys, the document's own keys -/
structure XS (w wx : World) (g q r : Nat) (c : Cfg) (b : Ky) (ob : Option Addr) (u : Ur) (O : Option Addr) (n : Nat) : Prop where
  bel : Below w.heap.size w wx
  cat : CAt wx g c
  bk : KyAt wx q b ob
  at_ : YAt wx b ob
  uk : UrAt wx r u O n
  own : Sh.Own eN wx w.heap.size (slv O u.l.length n) u.l
  lo : w.heap.size ≤ q ∧ w.heap.size ≤ r
section
variable {w W W' : World} {g q r : Nat} {c : Cfg} {b d : Ky} {ob od : Option Addr} {u v : Ur} {O O' : Option Addr} {n n' : Nat}
theorem XS.step (h : XS w W g q r c b ob u O n) (hb : Below W.heap.size W W') : XS w W' g q r c b ob u O n :=
  ⟨h.bel.trans (hb.mono h.bel.size), At.step h.cat hb, At.step h.bk hb, h.at_.step hb, At.step h.uk hb, h.own.below hb, h.lo⟩
theorem XS.putK (h : XS w W g q r c b ob u O n) (hd : YAt W d od) : XS w (W.setRow q (d.cells od)) g q r c d od u O n :=
  ⟨setRow_below h.bel h.lo.1 _, At.farRow h.cat (At.ne h.cat h.bk (by decide)), At.setRow h.bk _, hd.farRow h.bk (by decide) (by decide), At.farRow h.uk (At.ne h.uk h.bk (by decide)), h.own.chg (chg_setRow _ _ _) (fun k hk e => by subst e; exact own_ne h.own h.bk (by decide) hk), h.lo⟩
theorem XS.putU (h : XS w W g q r c b ob u O n) (hd : Sh.Own eN W w.heap.size (slv O' v.l.length n') v.l) : XS w (W.setRow r (v.cells O' n')) g q r c b ob v O' n' :=
  ⟨setRow_below h.bel h.lo.2 _, At.farRow h.cat (At.ne h.cat h.uk (by decide)), At.farRow h.bk (At.ne h.bk h.uk (by decide)), h.at_.farRow h.uk (by decide) (by decide), At.setRow h.uk _, hd.chg (chg_setRow _ _ _) (fun k hk e => by subst e; exact own_ne hd h.uk (by decide) hk), h.lo⟩
theorem XS.conf (h : XS w W g q r c b ob zu none 0) (hl : b.l = []) : XS w (W.setCells r 0 c.cells.toList) g q r c b ob ⟨c, []⟩ none 0 := by
  refine ⟨below_setCells h.lo.2 h.bel, At.farCells (At.ne h.cat h.uk (by decide)) h.cat, At.farCells (At.ne h.bk h.uk (by decide)) h.bk, h.at_.empty hl, ?_, Sh.Own.nil eN _ _, h.lo⟩
  have := At.setCells (vs := c.cells.toList) (o := 0) h.uk
  rwa [setL_conf] at this
theorem XS.new (hb : Below w.heap.size w W) (hc : CAt W g c) (hk : KyAt W q b ob) (ha : YAt W b ob) (lo : w.heap.size ≤ q) : XS w (W.alloc (.cells (zu.cells none 0) 35)) g q W.heap.size c b ob zu none 0 := by
  have h2 := below_new W (.cells (zu.cells none 0) 35)
  exact ⟨hb.trans (h2.mono hb.size), At.step hc h2, At.step hk h2, ha.step h2, UrAt.new W zu none 0, Sh.Own.nil eN _ _, ⟨lo, hb.size⟩⟩
end
theorem wpList_store_confu {ops : Array Oper} {rest : List Oper} {o : Oper} {a : Act} {w : World} {Q : Exit → Act → World → Prop} (x y : Tmp) (ho : o.op = .store 24 (.tmp x) (.tmp y)) (hgd : o.guard = none) {q : Nat} {z : Ur} {O : Option Addr} {n : Nat} {c : Cfg} (e1 : a.eval (.tmp x) = ptr q 0) (e2 : a.eval (.tmp y) = c.V) (hq : UrAt w q z O n)
    (k : wpList Try.prog ops Q rest (a.put o.dst undef) (w.setCells q 0 c.cells.toList)) : wpList Try.prog ops Q (o :: rest) a w :=
  wpList_store_mid hgd 24 (.tmp x) (.tmp y) ho q 0 c.cells e1 e2 (fun j hj => ⟨by
    rw [c.size] at hj
    have hz : 0 + j < (z.cells O n).size := by rw [z.size]; omega
    rw [At.cell hq, Array.getElem?_eq_getElem hz]; rfl, At.frozen hq _⟩) (size24 c) c.one k
/-- what a With does to both -/
theorem KI.both {c : Cfg} {b : Ky} {u : Ur} {n : Nat} (h : KI c b u n) {now who k : Int} (body ans : ByteArray) (hk : isU k) :
    ∃ m d ee, withK b now who k body ans = (m, ee) ∧ rwith u now who k body ans = (d, ee) ∧ ((ee = 0 ∧ KI c m d (n + 1)) ∨ (ee = 7 ∧ m = zy ∧ d = zu)) := by
  by_cases hl : (lookK b now who k body).2 = 1
  · exact ⟨_, _, 0, if_pos hl, if_pos (by rw [h.look body hk]; exact hl), .inl ⟨rfl, h.done ans hk hl⟩⟩
  · exact ⟨_, _, 7, if_neg hl, if_neg (by rw [h.look body hk]; exact hl), .inr ⟨rfl, rfl, rfl⟩⟩
/-- a slice of so many -/
def NLen (P : Nat) (v : Value) (w : World) : Prop := ∃ O k, v = .slice O P k
theorem NLen.keep {P : Nat} {v : Value} {w w' : World} (h : NLen P v w) : NLen P v w' := h
theorem NPost.len {w w' : World} {xs : List En} {P : Nat} {e : Ending} (h : NPost w xs e w') (hP : xs.length = P) : ∃ v, e = .returned v ∧ NLen P v w' ∧ Below w.heap.size w w' := by
  obtain ⟨v, rfl, ho, hb⟩ := h
  obtain ⟨O, k, rfl⟩ := own_sl ho
  exact ⟨_, rfl, ⟨O, k, by rw [hP]⟩, hb⟩
end Go.Proofs.Ytedogbkkophghaa
