/- Keys, plain: what holds behind every deed; what a With changes. No Go text. -/
import Derived.Test.YtedogbkkophghaaKyArgs
namespace Go.Proofs.Ytedogbkkophghaa
open Sh.Plain (KV get put Rise)
set_option linter.unusedVariables false
set_option linter.unusedSimpArgs false

theorem alive_iff {now : Int} {x : E} : Sh.alive now x = true ↔ now ≤ x.last := by simp [Sh.alive]
theorem mem_cnt {now : Int} {l : List KV} {y : KV} : y ∈ cnt now l ↔ y ∈ l ∧ now ≤ y.2.last := by
  unfold cnt
  rw [List.mem_filter, alive_iff]
/-- keys as With makes them -/
structure Wf (b : Ky) : Prop where
  rise : Rise b.l
  fit : b.fit
  ent : ∀ y ∈ b.l, ∃ who k, isW who ∧ isU k ∧ y.1 = pl who k ∧ y.2.last = lastK b.c k
theorem Wf.make (c : Cfg) : Wf (makeK c) := by
  refine ⟨?_, fit_make c, ?_⟩
  · unfold makeK; split <;> exact Sh.Plain.Rise.nil
  · unfold makeK
    split
    · intro y hy; simp at hy
    · intro y hy; simp [zy] at hy
theorem Wf.withY {b : Ky} (h : Wf b) {now who k : Int} (hw : isW who) (hk : isU k) (body ans : ByteArray) : Wf (withY b now who k body ans) := by
  refine ⟨(cnt_rise h.rise).put, h.fit, fun y hy => ?_⟩
  rcases Sh.Plain.mem_put hy with rfl | hy
  · exact ⟨who, k, hw, hk, rfl, rfl⟩
  · exact h.ent y (mem_cnt.1 hy).1
/-- who stands at the place of a principal and a key -/
theorem Wf.last {b : Ky} (h : Wf b) {who k : Int} {x : E} (hw : isW who) (hk : isU k) (hg : get (pl who k) b.l = some x) : x.last = lastK b.c k := by
  obtain ⟨a, j, ha, hj, e1, e2⟩ := h.ent _ (Sh.Plain.get_mem hg)
  obtain ⟨_, rfl⟩ := pl_inj hw ha hk hj e1
  exact e2
theorem Wf.cnt {b : Ky} (h : Wf b) {now who k : Int} (hw : isW who) (hk : isU k) (hl : now ≤ lastK b.c k) : get (pl who k) (cnt now b.l) = get (pl who k) b.l := by
  cases hg : get (pl who k) b.l with
  | none => exact get_cnt hg
  | some x =>
    refine Sh.Plain.get_of_mem (cnt_rise h.rise) (mem_cnt.2 ⟨Sh.Plain.get_mem hg, ?_⟩)
    show now ≤ x.last
    rw [h.last hw hk hg]; exact hl
/-- what a With leaves at the other places -/
theorem Wf.get_with {b : Ky} (h : Wf b) {now who k a j : Int} {body ans : ByteArray} (hw : isW who) (hk : isU k) (ha : isW a) (hj : isU j) (hl : now ≤ lastK b.c j) :
    get (pl a j) (Go.Proofs.Ytedogbkkophghaa.withY b now who k body ans).l = if a = who ∧ j = k then some (entK b.c k body ans) else get (pl a j) b.l := by
  show get (pl a j) (put (pl who k) (entK b.c k body ans) (Go.Proofs.Ytedogbkkophghaa.cnt now b.l)) = _
  rw [Sh.Plain.get_put (cnt_rise h.rise)]
  by_cases e : a = who ∧ j = k
  · obtain ⟨rfl, rfl⟩ := e
    simp
  · rw [if_neg (fun e2 => e (pl_inj ha hw hj hk e2)), if_neg e, h.cnt ha hj hl]
theorem cnt_with {b : Ky} {now who k : Int} {body ans : ByteArray} (h : Wf b) (hl : now ≤ lastK b.c k) (hg : get (pl who k) b.l = none) :
    cnt now (withY b now who k body ans).l = (withY b now who k body ans).l ∧ (withY b now who k body ans).l.length = (cnt now b.l).length + 1 := by
  refine ⟨List.filter_eq_self.2 (fun y hy => ?_), ?_⟩
  · rw [alive_iff]
    rcases Sh.Plain.mem_put hy with rfl | hy
    · exact hl
    · exact (mem_cnt.1 hy).2
  · show (put (pl who k) (entK b.c k body ans) (cnt now b.l)).length = _
    rw [Sh.Plain.put_length (cnt_rise h.rise), get_cnt hg]
    rfl
theorem withK_ok {b m : Ky} {now who k e : Int} {body ans : ByteArray} (h : withK b now who k body ans = (m, e)) : (e = 0 ∧ m = withY b now who k body ans ∧ (lookK b now who k body).2 = 1) ∨ (e = 7 ∧ m = zy ∧ (lookK b now who k body).2 ≠ 1) := by
  unfold withK at h
  split at h
  · next hl => injection h with h1 h2; exact .inl ⟨h2.symm, h1.symm, hl⟩
  · next hl => injection h with h1 h2; exact .inr ⟨h2.symm, h1.symm, hl⟩
/-- what somebody else asks changes nothing of mine -/
theorem look_apart {b : Ky} {now xw xk yw yk : Int} {xb yb ans : ByteArray} (h : Wf b) (hxk : isU xk) (hyk : isU yk) (hne : ¬ (xw = yw ∧ xk = yk)) (hl : (lookK b now yw yk yb).2 = 1) :
    lookK (withY b now yw yk yb ans) now xw xk xb = lookK b now xw xk xb ∨ (lookK b now xw xk xb = (zt, 1) ∧ lookK (withY b now yw yk yb ans) now xw xk xb = (zt, 5)) := by
  obtain ⟨hc, hg, hn⟩ := look_new hl
  obtain ⟨hyw, hok, _, hyl, _⟩ := canK_in hc
  have hcc : (withY b now yw yk yb ans).c = b.c := rfl
  by_cases hx : canK b.c now xw xk = true
  · obtain ⟨hxw, _, _, hxl, _⟩ := canK_in hx
    have e := h.get_with (body := yb) (ans := ans) hyw hyk hxw hxk hxl
    rw [if_neg hne] at e
    obtain ⟨c1, c2⟩ := cnt_with (body := yb) (ans := ans) h hyl hg
    unfold lookK
    rw [hcc, if_pos hx, if_pos hx, e, c1, c2]
    cases get (pl xw xk) b.l with
    | some x => exact .inl rfl
    | none =>
      simp only
      rw [if_neg hn]
      by_cases h5 : (((cnt now b.l).length + 1 : Nat) : Int) = b.c.get 5
      · rw [if_pos h5]; exact .inr ⟨rfl, rfl⟩
      · rw [if_neg h5]; exact .inl rfl
  · left
    unfold lookK
    rw [hcc, if_neg hx, if_neg hx]
end Go.Proofs.Ytedogbkkophghaa
