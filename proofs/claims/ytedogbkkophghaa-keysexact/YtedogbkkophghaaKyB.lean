/- Keys: whether a key is good; keys as a plain thing, and where they lie. -/
import Derived.Test.YtedogbkkophghaaKyA
import Derived.Test.YtedogbkkophghaaShK
namespace Go.Proofs.Ytedogbkkophghaa
open Go.RowKit Go.Lib
open Sh.Plain (KV get put Rise)
set_option linter.unusedVariables false
set_option linter.unusedSimpArgs false

/-- whether a key is good, at a tick -/
def goodK (c : Cfg) (k now : Int) : Bool := okc c && decide (stp k ≤ now) && decide (now ≤ lastK c k)
set_option maxRecDepth 100000 in
set_option maxHeartbeats 1600000 in
theorem isGood_any (c : Cfg) (k now : Int) (hk : isU k) (w : World) : Calls Try.prog 10 #[c.V, .int .u64 k, .int .i64 now] w fun e w' => e = .returned (.bool (goodK c k now)) ∧ Below w.heap.size w w' := by
  have HA := Lib.hid (CAt.new w c)
  have HB := Lib.hid (below_new w (.cells c.cells 24))
  have CK := Lib.hid (fun W => check_any c W)
  have CS := Lib.hid (fun W => stamp_any k hk W)
  obtain ⟨g, hg⟩ : ∃ g, goodK c k now = g := ⟨_, rfl⟩
  rw [hg]
  cases hc : okc c
  · rw [chk_no hc] at CK
    have HG := Lib.hid (show g = false by rw [← hg]; unfold goodK; rw [hc]; rfl)
    clear hg hc hk CS
    go_enter Try.func10, Try.ntmps10
    go_wp2_with (first | ((with_reducible apply wpList_load_cat (h := HA.out)); exact rfl; exact rfl; exact rfl) | (go_at_call 23; (with_reducible refine (CK.out _).mono ?_); rintro e w1 ⟨rfl, hb⟩))
    go_ret
    exact ⟨ret_bool HG.out.symm, HB.out.trans (hb.mono HB.out.size)⟩
  · rw [chk_ok hc] at CK
    have CL := Lib.hid (fun W => last_any c k hk hc W)
    cases h1 : decide (stp k ≤ now)
    · have HG := Lib.hid (show g = false by rw [← hg]; unfold goodK; rw [hc, h1]; rfl)
      clear hg hc hk CL
      generalize stp k = a at *
      go_enter Try.func10, Try.ntmps10
      go_wp2_with (first | ((with_reducible apply wpList_load_cat (h := HA.out)); exact rfl; exact rfl; exact rfl) | (go_at_call 23; (with_reducible refine (CK.out _).mono ?_); rintro e w1 ⟨rfl, hb⟩) | (go_at_call 12; (with_reducible refine (CS.out _).mono ?_); rintro e w2 ⟨rfl, rfl⟩))
      go_ret
      exact ⟨ret_bool HG.out.symm, HB.out.trans (hb.mono HB.out.size)⟩
    · have HG := Lib.hid (show g = decide (now ≤ lastK c k) by rw [← hg]; unfold goodK; rw [hc, h1]; simp)
      clear hg hc hk
      generalize stp k = a at *
      generalize lastK c k = z at *
      generalize hq : decide (now ≤ z) = q at *
      go_enter Try.func10, Try.ntmps10
      go_wp2_with (first | ((with_reducible apply wpList_load_cat (h := HA.out)); exact rfl; exact rfl; exact rfl) | (go_at_call 23; (with_reducible refine (CK.out _).mono ?_); rintro e w1 ⟨rfl, hb⟩; have HA1 := Lib.hid (HA.out.step hb)) | (go_at_call 12; (with_reducible refine (CS.out _).mono ?_); rintro e w2 ⟨rfl, rfl⟩) | ((with_reducible apply wpList_load_cat (h := HA1.out)); exact rfl; exact rfl; exact rfl) | (go_at_call 26; (with_reducible refine (CL.out _).mono ?_); rintro e w3 ⟨rfl, hb3⟩))
      go_ret
      exact ⟨ret_bool HG.out.symm, (HB.out.trans (hb.mono HB.out.size)).trans (hb3.mono (HB.out.trans (hb.mono HB.out.size)).size)⟩

/-- keys: their building, the entries by where they stand, the room -/
structure Ky where
  c : Cfg
  l : List KV
  rm : Nat
/-- a shelf's cells -/
abbrev sv (o : Option Addr) (n r : Nat) : Value := .agg #[.pointer o, .int .i64 (n : Int), .int .i64 (r : Int)]
def Ky.tail (b : Ky) (o : Option Addr) : List Value := [.int .u32 b.c.s, .pointer o, .int .i64 (b.l.length : Int), .int .i64 (b.rm : Int)]
def Ky.cells (b : Ky) (o : Option Addr) : Array Value := (b.c.n.map (Value.int .i64) ++ b.tail o).toArray
abbrev Ky.V (b : Ky) (o : Option Addr) : Value := .agg (b.cells o)
def zy : Ky := ⟨zc, [], 0⟩
abbrev Z21 : Array Value := #[.int .i64 0, .int .i64 0, .int .i64 0, .int .i64 0, .int .i64 0, .int .i64 0, .int .i64 0, .int .i64 0, .int .i64 0, .int .i64 0, .int .i64 0, .int .i64 0, .int .i64 0, .int .i64 0, .int .i64 0, .int .i64 0, .int .i64 0, .int .u32 0, .pointer none, .int .i64 0, .int .i64 0]
theorem zy_cells : zy.cells none = Z21 := rfl
section
variable (b : Ky) (o : Option Addr)
theorem Ky.tail_len : (b.tail o).length = 4 := rfl
theorem Ky.size : (b.cells o).size = 21 := by simp [Ky.cells, b.c.len, b.tail_len]
theorem Ky.one : (b.cells o).all (·.oneCell') = true := by
  refine Array.all_eq_true_iff_forall_mem.2 fun v hv => ?_
  simp [Ky.cells, Ky.tail] at hv
  rcases hv with ⟨a, _, rfl⟩ | rfl | rfl | rfl | rfl <;> rfl
theorem Ky.at_tail (k : Nat) : (b.cells o)[17 + k]? = (b.tail o)[k]? := by
  have h : ¬ 17 + k < (b.c.n.map (Value.int .i64)).length := by rw [List.length_map, b.c.len]; omega
  simp only [Ky.cells, List.getElem?_toArray, List.getElem?_append, if_neg h]
  rw [List.length_map, b.c.len, Nat.add_sub_cancel_left]
theorem Ky.at18 : (b.cells o)[18]? = some (.pointer o) := b.at_tail o 1
theorem Ky.at19 : (b.cells o)[19]? = some (.int .i64 (b.l.length : Int)) := b.at_tail o 2
theorem Ky.at20 : (b.cells o)[20]? = some (.int .i64 (b.rm : Int)) := b.at_tail o 3
theorem Ky.conf (j : Nat) (u : Value) (h : b.c.cells[j]? = some u) : (b.cells o)[0 + j]? = some u := by
  rw [Nat.zero_add]
  have hj : j < 18 := by have := (Array.getElem?_eq_some_iff.1 h).1; rwa [b.c.size] at this
  by_cases h17 : j < 17
  · have hl : j < b.c.n.length := by rw [b.c.len]; exact h17
    simp only [Cfg.cells, List.getElem?_toArray] at h
    simp only [Ky.cells, List.getElem?_toArray]
    rw [List.getElem?_append_left (by rw [List.length_map]; exact hl)] at h ⊢
    exact h
  · obtain rfl : j = 17 := by omega
    rw [b.c.atS] at h
    rw [← h]
    exact b.at_tail o 0
theorem Ky.set_tail (k : Nat) (v : Value) : (b.cells o).setIfInBounds (17 + k) v = (b.c.n.map (Value.int .i64) ++ (b.tail o).set k v).toArray := by
  simp only [Ky.cells, List.setIfInBounds_toArray]
  rw [List.set_append_right _ _ (by rw [List.length_map, b.c.len]; omega), List.length_map, b.c.len, Nat.add_sub_cancel_left]
theorem Ky.set_l (l : List KV) (o' : Option Addr) : (((b.cells o).setIfInBounds 18 (.pointer o')).setIfInBounds 19 (.int .i64 (l.length : Int))).setIfInBounds 20 (.int .i64 (b.rm : Int)) = ({ b with l := l } : Ky).cells o' := by
  simp only [Ky.cells, List.setIfInBounds_toArray]
  rw [List.set_append_right _ _ (by rw [List.length_map, b.c.len]; omega), List.length_map, b.c.len]
  rw [List.set_append_right _ _ (by rw [List.length_map, b.c.len]; omega), List.length_map, b.c.len]
  rw [List.set_append_right _ _ (by rw [List.length_map, b.c.len]; omega), List.length_map, b.c.len]
  rfl
theorem sizeY : (Try.prog.info? 31).map (·.size) = some (b.cells o).size := by rw [b.size]; kernel_rfl
end
/-- keys' shelf lies there -/
def YAt (w : World) (b : Ky) (o : Option Addr) : Prop := Sh.SAt w (sv o b.l.length b.rm) b.l b.rm
/-- keys lie in a block -/
abbrev KyAt (w : World) (g : Nat) (b : Ky) (o : Option Addr) : Prop := At w g 31 (b.cells o)
theorem YAt.step {w w' : World} {b : Ky} {o : Option Addr} (h : YAt w b o) (hb : Below w.heap.size w w') : YAt w' b o := Sh.SAt.step h hb
theorem At.step {w w' : World} {g : Nat} {t : TypeId} {cs : Array Value} (h : At w g t cs) (hb : Below w.heap.size w w') : At w' g t cs := At.below h hb (At.lt h)
theorem YAt.zero (w : World) : YAt w zy none := Sh.sat_nil w 0 (by omega)
section
variable {w w' : World} {g : Nat} {b : Ky} {o : Option Addr}
theorem KyAt.k18 (h : KyAt w g b o) : w.cell? ⟨g, 18, none⟩ = some (.pointer o) := by rw [At.cell h, b.at18]
theorem KyAt.k19 (h : KyAt w g b o) : w.cell? ⟨g, 19, none⟩ = some (.int .i64 (b.l.length : Int)) := by rw [At.cell h, b.at19]
theorem KyAt.k20 (h : KyAt w g b o) : w.cell? ⟨g, 20, none⟩ = some (.int .i64 (b.rm : Int)) := by rw [At.cell h, b.at20]
theorem KyAt.kc (h : KyAt w g b o) : w.rangeAt g 0 b.c.cells.toList := fun j u hu => by
  rw [At.cell h]; exact b.conf o j u (by simpa using hu)
theorem KyAt.cget (h : KyAt w g b o) {k : Nat} (hk : k < 17) : w.cell? ⟨g, k, none⟩ = some (.int .i64 (b.c.get k)) := by
  rw [At.cell h]
  have := b.conf o k _ (b.c.at_ hk)
  rwa [Nat.zero_add] at this
theorem KyAt.setL (h : KyAt w g b o) (l : List KV) (o' : Option Addr) : KyAt (((w.setCell ⟨g, 18, none⟩ (.pointer o')).setCell ⟨g, 19, none⟩ (.int .i64 (l.length : Int))).setCell ⟨g, 20, none⟩ (.int .i64 (b.rm : Int))) g { b with l := l } o' := by
  have := At.set (At.set (At.set h 18 (.pointer o')) 19 (.int .i64 (l.length : Int))) 20 (.int .i64 (b.rm : Int))
  rwa [b.set_l o] at this
theorem KyAt.new (w : World) (b : Ky) (o : Option Addr) : KyAt (w.alloc (.cells (b.cells o) 31)) w.heap.size b o := At.new w 31 _
theorem KyAt.setRow (h : KyAt w g b o) (d : Ky) (o' : Option Addr) : KyAt (w.setRow g (d.cells o')) g d o' := setRow_heap w g (b.cells o) (d.cells o') 31 (0, 0) h
end
/-- rows stored elsewhere change no tree -/
theorem At.farRow {w : World} {g q : Nat} {t : TypeId} {cs ds : Array Value} (h : At w g t cs) (hne : g ≠ q) : At (w.setRow q ds) g t cs := by
  unfold At at h ⊢
  unfold World.setRow
  simp only [Array.getElem?_modify]
  rw [if_neg (Ne.symm hne)]
  exact h
theorem At.setRow {w : World} {q : Nat} {t : TypeId} {cs : Array Value} (h : At w q t cs) (ds : Array Value) : At (w.setRow q ds) q t ds := setRow_heap w q cs ds t (0, 0) h
theorem TAt.farRow {w : World} {B q : Nat} {e : TypeId} {cs ds : Array Value} (ha : At w q e cs) (h1 : e ≠ 93) (h2 : e ≠ 90) : ∀ {t : Sh.Plain.T} {v : Value}, Sh.TAt w B v t → Sh.TAt (w.setRow q ds) B v t
  | .nil, _, h => h
  | .node l p x r, v, h => by
    obtain ⟨g, vl, vr, rfl, hg, hp, hn, hx, hl, hr⟩ := h
    exact ⟨g, vl, vr, rfl, hg, hp, At.farRow hn (At.ne hn ha (Ne.symm h1)), At.farRow hx (At.ne hx ha (Ne.symm h2)), TAt.farRow ha h1 h2 hl, TAt.farRow ha h1 h2 hr⟩
theorem size_setRow' (w : World) (q : Nat) (cs : Array Value) : (w.setRow q cs).heap.size = w.heap.size := by simp [World.setRow]
theorem SAt.farRow {w : World} {q : Nat} {e : TypeId} {cs ds : Array Value} (ha : At w q e cs) (h1 : e ≠ 93) (h2 : e ≠ 90) {v : Value} {l : List KV} {room : Nat} (h : Sh.SAt w v l room) : Sh.SAt (w.setRow q ds) v l room := by
  obtain ⟨vt, t, rfl, h3, h4⟩ := h
  exact ⟨vt, t, rfl, by rw [size_setRow']; exact TAt.farRow ha h1 h2 h3, h4⟩
theorem SAt.far {w : World} {q i : Nat} {e : TypeId} {cs : Array Value} {u : Value} (ha : At w q e cs) (h1 : e ≠ 93) (h2 : e ≠ 90) {v : Value} {l : List KV} {room : Nat} (h : Sh.SAt w v l room) : Sh.SAt (w.setCell ⟨q, i, none⟩ u) v l room := by
  obtain ⟨vt, t, rfl, h3, h4⟩ := h
  exact ⟨vt, t, rfl, by rw [Sh.size_set]; exact Sh.TAt.far ha h1 h2 h3, h4⟩
theorem YAt.farRow {w : World} {q : Nat} {e : TypeId} {cs ds : Array Value} {b : Ky} {o : Option Addr} (h : YAt w b o) (ha : At w q e cs) (h1 : e ≠ 93) (h2 : e ≠ 90) : YAt (w.setRow q ds) b o := SAt.farRow ha h1 h2 h
theorem YAt.far {w : World} {q i : Nat} {e : TypeId} {cs : Array Value} {u : Value} {b : Ky} {o : Option Addr} (h : YAt w b o) (ha : At w q e cs) (h1 : e ≠ 93) (h2 : e ≠ 90) : YAt (w.setCell ⟨q, i, none⟩ u) b o := SAt.far ha h1 h2 h

section
variable {ops : Array Oper} {rest : List Oper} {o : Oper} {a : Act} {w : World} {Q : Exit → Act → World → Prop}
theorem wpList_load_ky (x : Tmp) (ho : o.op = .load 31 (.tmp x)) (hgd : Region.wanted o (yielded ops a.tmps) = true) {g : Nat} {b : Ky} {s : Option Addr} (e : a.eval (.tmp x) = ptr g 0) (h : KyAt w g b s)
    (k : wpList Try.prog ops Q rest (a.put o.dst (b.V s)) w) : wpList Try.prog ops Q (o :: rest) a w :=
  wpList_load_rowG hgd 31 (.tmp x) ho g e 31 (b.cells s) (0, 0) _ h Try.underlying31 rfl (sizeY b s) k
theorem wpList_store_ky (x y : Tmp) (ho : o.op = .store 31 (.tmp x) (.tmp y)) (hgd : o.guard = none) {q : Nat} {b z : Ky} {s s' : Option Addr} (e1 : a.eval (.tmp x) = ptr q 0) (e2 : a.eval (.tmp y) = b.V s) (hq : KyAt w q z s')
    (k : wpList Try.prog ops Q rest (a.put o.dst undef) (w.setRow q (b.cells s))) : wpList Try.prog ops Q (o :: rest) a w :=
  wpList_store_row hgd 31 (.tmp x) (.tmp y) ho q (b.cells s) e1 e2 31 (z.cells s') hq (sizeY b s) (by rw [z.size, b.size]) (b.one s) k
/-- keys that are none, built -/
theorem wpList_build_zy (ho : o.op = .build 31 #[]) (hgd : o.guard = none) (k : wpList Try.prog ops Q rest (a.put o.dst (zy.V none)) w) : wpList Try.prog ops Q (o :: rest) a w :=
  wpList_build_as hgd 31 #[] ho (zy.cells none) (by kernel_rfl) k
end
/-- results: keys in a cell, and a number -/
theorem results_two {fn : Func} {p r : Tmp} (h : fn.results = #[.cell p 31, .tmp r]) {tmps : Array Value} {w : World} {g : Nat} {b : Ky} {o1 : Option Addr} {v : Value} (hp : tmps.getD p undef = ptr g 0) (hr : tmps.getD r undef = v) (hg : KyAt w g b o1) :
    (results fn tmps).run Try.prog w = .ok (.tuple #[b.V o1, v]) w := by
  rw [Array.getD_eq_getD_getElem?] at hp hr
  have l1 : (loadVar 31 ⟨g, 0, none⟩).run Try.prog w = .ok (b.V o1) w := run_loadVar_row w g 31 31 (b.cells o1) (0, 0) _ hg Try.underlying31 rfl (sizeY b o1)
  simp [results, h, hp, hr, asAddr, l1]
theorem results_one {fn : Func} {p : Tmp} (h : fn.results = #[.cell p 31]) {tmps : Array Value} {w : World} {g : Nat} {b : Ky} {o1 : Option Addr} (hp : tmps.getD p undef = ptr g 0) (hg : KyAt w g b o1) :
    (results fn tmps).run Try.prog w = .ok (b.V o1) w := by
  rw [Array.getD_eq_getD_getElem?] at hp
  have l1 : (loadVar 31 ⟨g, 0, none⟩).run Try.prog w = .ok (b.V o1) w := run_loadVar_row w g 31 31 (b.cells o1) (0, 0) _ hg Try.underlying31 rfl (sizeY b o1)
  simp [results, h, hp, asAddr, l1]
end Go.Proofs.Ytedogbkkophghaa
