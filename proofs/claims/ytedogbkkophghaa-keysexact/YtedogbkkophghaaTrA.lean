/- The contracts of cmp.Compare, high, joined, find and first. -/
import Derived.Test.YtedogbkkophghaaTMem
import Derived.ProofKit
import Derived.BigQuiet
import Derived.Laws.Cover1
namespace Go.Proofs.Ytedogbkkophghaa.Sh
open Go.RowKit Go.Lib Plain

theorem isNaN_any (s : ByteArray) (w : World) : Calls Try.prog 72 #[.string s] w fun e w' => e = .returned (.bool false) ∧ w = w' := by
  go_enter Try.func72, Try.ntmps72
  go_wp2
  go_ret
  simp
/-- below: -1, alike: 0, above: 1 -/
def side (a b : ByteArray) : Int := if lt a b = true then -1 else if a = b then 0 else 1
theorem side_lt {a b : ByteArray} (h : lt a b = true) : side a b = -1 := if_pos h
theorem side_eq (a : ByteArray) : side a a = 0 := by unfold side; rw [lt_irrefl]; simp
theorem side_gt {a b : ByteArray} (h : lt b a = true) : side a b = 1 := by
  unfold side; rw [lt_asymm h, if_neg (by decide), if_neg (lt_ne h).symm]
theorem side_cases (a b : ByteArray) : (lt a b = true ∧ side a b = -1) ∨ (a = b ∧ side a b = 0) ∨ (lt b a = true ∧ side a b = 1) := by
  cases h : lt a b
  · cases k : lt b a
    · have := lt_conn h k; subst this; exact .inr (.inl ⟨rfl, side_eq a⟩)
    · exact .inr (.inr ⟨rfl, side_gt k⟩)
  · exact .inl ⟨rfl, side_lt h⟩
set_option maxRecDepth 100000 in
theorem compare_any (a b : ByteArray) (w : World) : Calls Try.prog 63 #[.string a, .string b] w fun e w' => e = .returned (.int .i64 (side a b)) ∧ w = w' := by
  rcases side_cases a b with ⟨h, e⟩ | ⟨rfl, e⟩ | ⟨h, e⟩
  · rw [e]
    have h1 : Op.bytesLess a.toList b.toList = true := h
    have CN := Lib.hid (fun s => isNaN_any s w)
    go_enter Try.func63, Try.ntmps63
    go_wp2_with (first | (go_at_call 72; refine (CN.out _).mono ?_; rintro e w' ⟨rfl, rfl⟩))
    go_ret
    exact ⟨rfl, rfl⟩
  · rw [e]
    have h1 : Op.bytesLess a.toList a.toList = false := lt_irrefl a
    have CN := Lib.hid (fun s => isNaN_any s w)
    go_enter Try.func63, Try.ntmps63
    go_wp2_with (first | (go_at_call 72; refine (CN.out _).mono ?_; rintro e w' ⟨rfl, rfl⟩))
    go_ret
    exact ⟨rfl, rfl⟩
  · rw [e]
    have h1 : Op.bytesLess a.toList b.toList = false := lt_asymm h
    have h2 : (a.toList == b.toList) = false := by
      rw [beq_eq_false_iff_ne]
      exact fun e => lt_ne h (toList_inj e).symm
    have CN := Lib.hid (fun s => isNaN_any s w)
    go_enter Try.func63, Try.ntmps63
    go_wp2_with (first | (go_at_call 72; refine (CN.out _).mono ?_; rintro e w' ⟨rfl, rfl⟩))
    go_ret
    exact ⟨rfl, rfl⟩
section
variable {w : World} {B : Nat} {v vl vr : Value} {t tl tr : T}
theorem high_any (h : TAt w B v t) : Calls Try.prog 73 #[v] w fun e w' => e = .returned (.int .i64 (t.high : Int)) ∧ w = w' := by
  rcases h.form with ⟨rfl, rfl⟩ | ⟨g, l, p, x, r, vl, vr, rfl, ht, hg, hp, hn, hx, hl, hr⟩
  · clear h
    go_enter Try.func73, Try.ntmps73
    go_wp2
    go_ret
    exact ⟨rfl, rfl⟩
  · have c3 := hn.c3
    generalize t.high = H at *
    clear h hn hx hl hr ht
    go_enter Try.func73, Try.ntmps73
    go_wp2
    go_ret
    exact ⟨rfl, rfl⟩
/-- what a call of one that makes a tree answers -/
def Made (w : World) (P : T → Prop) (e : Ending) (w' : World) : Prop := ∃ v t, e = .returned v ∧ TAt w' w'.heap.size v t ∧ P t ∧ Below w.heap.size w w'
set_option maxRecDepth 100000 in
set_option maxHeartbeats 800000 in
theorem joined_run {p a b : Nat} {ol or : Option Addr} (cl : ∀ W, W = w → Calls Try.prog 73 #[.pointer ol] W fun e w' => e = .returned (.int .i64 (a : Int)) ∧ W = w') (cr : ∀ W, W = w → Calls Try.prog 73 #[(.pointer or)] W fun e w' => e = .returned (.int .i64 (b : Int)) ∧ W = w') (h1 : a ≤ 1000000) (h2 : b ≤ 1000000) :
    Calls Try.prog 69 #[(.pointer ol), ptr p, (.pointer or)] w fun e w' => e = .returned (ptr w.heap.size) ∧ w' = w.alloc (.cells #[ptr p, (.pointer ol), (.pointer or), .int .i64 ((1 + max a b : Nat) : Int)] 93) := by
  have CL := Lib.hid cl
  have CR := Lib.hid cr
  clear cl cr
  have ea : IntKind.i64.wrap (1 + (a : Int)) = 1 + (a : Int) := IntWalk.i64_in _ (by omega)
  have eb : IntKind.i64.wrap (1 + (b : Int)) = 1 + (b : Int) := IntWalk.i64_in _ (by omega)
  clear h1 h2
  by_cases hab : a < b
  · rw [show max a b = b by omega]
    have ha : (a : Int) < (b : Int) := by omega
    go_enter Try.func69, Try.ntmps69
    go_wp2_with (first | (go_at_call 73; (with_reducible refine (CL.out _ rfl).mono ?_); rintro e w' ⟨rfl, rfl⟩) | (go_at_call 73; (with_reducible refine (CR.out _ rfl).mono ?_); rintro e w' ⟨rfl, rfl⟩))
    go_ret
    exact ⟨rfl, by simp⟩
  · rw [show max a b = a by omega]
    have ha : ¬ (a : Int) < (b : Int) := by omega
    go_enter Try.func69, Try.ntmps69
    go_wp2_with (first | (go_at_call 73; (with_reducible refine (CL.out _ rfl).mono ?_); rintro e w' ⟨rfl, rfl⟩) | (go_at_call 73; (with_reducible refine (CR.out _ rfl).mono ?_); rintro e w' ⟨rfl, rfl⟩))
    go_ret
    exact ⟨rfl, by simp⟩
theorem joined_any {p : Nat} {x : KV} (hl : TAt w w.heap.size vl tl) (hp : PAt w p x) (hr : TAt w w.heap.size vr tr) (h1 : tl.high ≤ 1000000) (h2 : tr.high ≤ 1000000) :
    Calls Try.prog 69 #[vl, ptr p, vr] w fun e w' => ∃ g, e = .returned (ptr g) ∧ TAt w' w'.heap.size (ptr g) (.node tl p x tr) ∧ Below w.heap.size w w' := by
  obtain ⟨ol, rfl⟩ := hl.ptr
  obtain ⟨or, rfl⟩ := hr.ptr
  refine (joined_run (fun W e => by subst e; exact high_any hl) (fun W e => by subst e; exact high_any hr) h1 h2).mono ?_
  rintro e w' ⟨rfl, rfl⟩
  have hb : Below w.heap.size w (w.alloc (.cells #[ptr p, .pointer ol, .pointer or, .int .i64 ((1 + max tl.high tr.high : Nat) : Int)] 93)) := (Below.refl _ _).alloc (Nat.le_refl _) _
  refine ⟨_, rfl, ⟨_, .pointer ol, .pointer or, rfl, by simp, Nat.lt_of_lt_of_le hp.lt hb.size, At.new _ _ _, hp.step hb, hl.step hb, hr.step hb⟩, hb⟩
set_option maxRecDepth 100000 in
set_option maxHeartbeats 800000 in
/-- find: where a key stands -/
theorem find_any (k : ByteArray) (h : TAt w B v t) (hr : Rise t.kvs) :
    Calls Try.prog 36 #[v, .string k] w fun e w' => w = w' ∧ ((get k t.kvs = none ∧ e = .returned (.pointer none)) ∨ ∃ g p vl vr hh x, get k t.kvs = some x ∧ e = .returned (ptr g) ∧ NAt w g p vl vr hh ∧ PAt w p (k, x)) := by
  have HT := Lib.hid h; have HR := Lib.hid hr; clear h hr
  obtain ⟨G, hG⟩ : ∃ G, get k t.kvs = G := ⟨_, rfl⟩
  rw [hG]
  have HG := Lib.hid hG; clear hG
  have CC := Lib.hid (fun a b W => compare_any a b W)
  go_enter Try.func36, Try.ntmps36
  go_wp2_with fail
  go_loopg [0] t.kvs.length (fun n s0 wx => wx = w ∧ ∃ t', TAt w B s0 t' ∧ Rise t'.kvs ∧ get k t'.kvs = G ∧ n = t'.kvs.length)
  case atStart => exact ⟨rfl, t, HT.out, HR.out, HG.out, rfl⟩
  case round =>
    obtain ⟨rfl, t', ht, hr, hg, hn⟩ := hrel
    rcases ht.form with ⟨rfl, rfl⟩ | ⟨g, l, p, x, r, vl, vr, rfl, htt, hgB, hpB, hno, hx, hl, hrr⟩
    · go_wp2_with fail
      go_ret
      exact ⟨rfl, .inl ⟨by rw [← hg]; rfl, rfl⟩⟩
    · subst htt
      rw [T.kvs_node] at hr hg hn
      obtain ⟨r1, r2, r3, r4⟩ := hr.parts
      have c0 := hno.c0; have c1 := hno.c1; have c2 := hno.c2; have k0 := hx.c0
      have HNO := Lib.hid hno; have HX := Lib.hid hx; have HL := Lib.hid hl; have HRR := Lib.hid hrr; have R1 := Lib.hid r1; have R2 := Lib.hid r2; have R3 := Lib.hid r3; have R4 := Lib.hid r4; have HGG := Lib.hid hg; have HN := Lib.hid hn
      clear ht hno hx hl hrr r1 r2 r3 r4 hr hg hn
      rcases side_cases k x.1 with ⟨hs, he⟩ | ⟨hs, he⟩ | ⟨hs, he⟩
      · have HS := Lib.hid hs; clear hs
        go_wp2_with (first | (go_at_call 63; (with_reducible refine (CC.out _ _ _).mono ?_); rintro e w' ⟨rfl, rfl⟩; rw [he]))
        go_roundg l.kvs.length
        case measure => have := HN.out; rw [this, List.length_append, List.length_cons]; omega
        case rel => exact ⟨rfl, l, HL.out, R1.out, by rw [← HGG.out, get_left HS.out R4.out], rfl⟩
      · have HS := Lib.hid hs; clear hs
        go_wp2_with (first | (go_at_call 63; (with_reducible refine (CC.out _ _ _).mono ?_); rintro e w' ⟨rfl, rfl⟩; rw [he]))
        go_ret
        refine ⟨rfl, .inr ⟨g, p, vl, vr, _, x.2, ?_, rfl, HNO.out, ?_⟩⟩
        · rw [← HGG.out, get_mid HS.out.symm R3.out]
        · have := HX.out; rw [HS.out]; exact this
      · have HS := Lib.hid hs; clear hs
        go_wp2_with (first | (go_at_call 63; (with_reducible refine (CC.out _ _ _).mono ?_); rintro e w' ⟨rfl, rfl⟩; rw [he]))
        go_roundg r.kvs.length
        case measure => have := HN.out; rw [this, List.length_append, List.length_cons]; omega
        case rel => exact ⟨rfl, r, HRR.out, R2.out, by rw [← HGG.out, get_right HS.out R3.out], rfl⟩
/-- the first pair -/
def T.fst : T → Nat × KV
  | .nil => (0, (⟨#[]⟩, ze))
  | .node .nil p x _ => (p, x)
  | .node l _ _ _ => T.fst l
end
end Go.Proofs.Ytedogbkkophghaa.Sh
