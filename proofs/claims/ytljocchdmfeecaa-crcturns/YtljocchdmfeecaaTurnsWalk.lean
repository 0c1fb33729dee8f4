/- The walk of the statement CrcTurns: its loop that turns three texts by one another, and its last line. -/
import Derived.Test.YtljocchdmfeecaaWalkD
import Derived.RegionTactic
import Derived.Test.YtljocchdmfeecaaAnyOrder
namespace Go.Proofs.Ytljocchdmfeecaa
open Go.RowKit Go.Lib Plain

def T3 (a b c : ByteArray) (j : Nat) : List UInt8 := turn3 (a.data.toList.take j) (b.data.toList.take j) (c.data.toList.take j)
theorem turn3_snoc (l m n : List UInt8) (a b c : UInt8) (h1 : m.length = l.length) (h2 : n.length = l.length) : turn3 (l ++ [a]) (m ++ [b]) (n ++ [c]) = turn3 l m n ++ [a ^^^ b ^^^ c] := by
  induction l generalizing m n with
  | nil =>
    obtain rfl : m = [] := List.length_eq_zero_iff.mp h1
    obtain rfl : n = [] := List.length_eq_zero_iff.mp h2
    rfl
  | cons x l ih =>
    match m, n, h1, h2 with
    | y :: m, z :: n, h1, h2 => simp only [List.length_cons, Nat.add_right_cancel_iff] at h1 h2; simp only [List.cons_append, turn3, ih m n h1 h2]
theorem T3_length (a b c : ByteArray) (j : Nat) (h0 : j ≤ a.size) (h1 : j ≤ b.size) (h2 : j ≤ c.size) : (T3 a b c j).length = j := by
  have e : ∀ (l m n : List UInt8), m.length = l.length → n.length = l.length → (turn3 l m n).length = l.length := by
    intro l
    induction l with
    | nil => intro m n _ _; cases m <;> cases n <;> rfl
    | cons x l ih =>
      intro m n h1 h2
      match m, n, h1, h2 with
      | y :: m, z :: n, h1, h2 => simp only [List.length_cons, Nat.add_right_cancel_iff] at h1 h2; simp only [turn3, List.length_cons, ih m n h1 h2]
  have hl : ∀ s : ByteArray, j ≤ s.size → (s.data.toList.take j).length = j := by
    intro s hs
    rw [List.length_take]
    have : s.data.toList.length = s.size := by simp
    omega
  unfold T3
  rw [e _ _ _ (by rw [hl b h1, hl a h0]) (by rw [hl c h2, hl a h0]), hl a h0]
theorem T3_succ (a b c : ByteArray) (j : Nat) (h0 : j < a.size) (h1 : j < b.size) (h2 : j < c.size) : T3 a b c (j + 1) = T3 a b c j ++ [a[j] ^^^ b[j] ^^^ c[j]] := by
  unfold T3
  have hl : ∀ s : ByteArray, j < s.size → (s.data.toList.take j).length = j := by
    intro s hs
    rw [List.length_take]
    have : s.data.toList.length = s.size := by simp
    omega
  rw [take_snoc a j h0, take_snoc b j h1, take_snoc c j h2, turn3_snoc _ _ _ _ _ _ (by rw [hl a h0, hl b h1]) (by rw [hl a h0, hl c h2])]

/-- at a round's head: the row's first j bytes are turned -/
structure Row (w wx : World) (g n : Nat) (a b c : ByteArray) (j : Nat) : Prop where
  own : ∃ xs : List Value, wx.ownsRow g 5 1 (.slice (some ⟨g, 0, none⟩) n n) n xs ∧ xs.take j = cellsB (T3 a b c j) ∧ (∀ v ∈ xs, ∃ z : Int, v = .int .u8 z)
  below : Below w.heap.size w wx
  le : w.heap.size ≤ g

theorem Row.cell {w wx : World} {g n : Nat} {a b c : ByteArray} {j : Nat} (h : Row w wx g n a b c j) (hj : j < n) : ∃ z : Int, wx.cell? ⟨g, j, none⟩ = some (.int .u8 z) := by
  obtain ⟨xs, ho, _, hz⟩ := h.own
  have hl : xs.length = n := by have := ho.1; omega
  have e : xs[j]? = some xs[j] := by simp
  obtain ⟨z, hz⟩ := hz xs[j] (by simp)
  exact ⟨z, by rw [ho.cellAt j (by omega), e, hz]⟩
theorem Row.frozen {w wx : World} {g n : Nat} {a b c : ByteArray} {j : Nat} (h : Row w wx g n a b c j) : wx.frozen? ⟨g, j, none⟩ = false := by
  obtain ⟨xs, ho, _, hz⟩ := h.own
  exact ho.frozenAt j
theorem Row.store {w wx : World} {g n : Nat} {a b c : ByteArray} {j : Nat} (h : Row w wx g n a b c j) (hj : j < n) (h0 : j < a.size) (h1 : j < b.size) (h2 : j < c.size) :
    Row w (wx.setCell ⟨g, j, none⟩ (.int .u8 ((a[j] ^^^ b[j] ^^^ c[j]).toNat : Int))) g n a b c (j + 1) := by
  obtain ⟨xs, ho, ht, hz⟩ := h.own
  have hl : xs.length = n := by have := ho.1; omega
  refine ⟨⟨xs.set j (.int .u8 ((a[j] ^^^ b[j] ^^^ c[j]).toNat : Int)), (ho.stored j _).1, ?_, ?_⟩, h.below.setCell (by exact h.le) _, h.le⟩
  · rw [T3_succ a b c j h0 h1 h2, List.take_succ_eq_append_getElem (by simp; omega), List.take_set_of_le (Nat.le_refl _), ht]
    simp [cellsB]
  · intro v hv
    rcases List.mem_or_eq_of_mem_set hv with hv | hv
    · exact hz v hv
    · exact ⟨_, hv⟩
theorem Row.drew {w wx : World} {g n : Nat} {a b c : ByteArray} {j : Nat} (h : Row w wx g n a b c j) : Row w wx.drew g n a b c j := by
  obtain ⟨xs, ho, ht, hz⟩ := h.own
  exact ⟨⟨xs, ho.drew, ht, hz⟩, h.below.drew, h.le⟩

def crcS (s : ByteArray) : BitVec 32 := crc s.data.toList
theorem of_s (s : ByteArray) (b : Nat) (w : World) (hc : w.cell? ⟨b, 0, none⟩ = some (.string s)) (hs : s.size ≤ maxLen) :
    Calls Try.prog 9 #[.slice (some ⟨b, 0, none⟩) 1 1] w fun e w' => e = .returned (.int .u32 (N (crcS s))) ∧ w = w' := of_one s b w hc hs
def Cells (g : Nat) (ns : List UInt8) (w : World) : Prop := g < w.heap.size ∧ ∀ j v, (cellsB ns)[j]? = some v → w.cell? ⟨g, j, none⟩ = some v
theorem Cells.alloc {g : Nat} {ns : List UInt8} {w : World} (h : Cells g ns w) (o : Obj) : Cells g ns (w.alloc o) :=
  ⟨by have := h.1; simp; omega, fun j v hj => by rw [World.cell?_alloc_past]; exact h.2 j v hj; exact h.1⟩
theorem Cells.drew {g : Nat} {ns : List UInt8} {w : World} (h : Cells g ns w) : Cells g ns w.drew := h
theorem keepS {g n : Nat} {ns : List UInt8} (hn : ns.length = n) {w : World} (h : Cells g ns w) :
    (convert 33 9 (.slice (some ⟨g, 0, none⟩) n n)).run Try.prog w = .ok (.string (textOf ns)) w ∧ Cells g ns w := ⟨conv_row w g n n ns hn h.2, h⟩
theorem Row.cells {w wx : World} {g n : Nat} {a b c : ByteArray} {j : Nat} (h : Row w wx g n a b c j) (h1 : ¬ j < n) (h2 : j ≤ n) : Cells g (T3 a b c n) wx := by
  obtain rfl : j = n := by omega
  obtain ⟨xs, ho, ht, hz⟩ := h.own
  have hl : xs.length = j := by have := ho.1; omega
  rw [List.take_of_length_le (by omega)] at ht
  refine ⟨?_, fun i v hv => ?_⟩
  · rcases ho.2 with ⟨h', _⟩ | ⟨g', cap', cur, h', _, hg, _⟩
    · simp at h'
    · simp only [Value.slice.injEq, Option.some.injEq, Addr.mk.injEq, and_true, true_and] at h'
      obtain ⟨rfl, rfl⟩ := h'
      exact (Array.getElem?_eq_some_iff.mp hg).1
  · rw [← ht] at hv
    have hi : i < xs.length := (List.getElem?_eq_some_iff.mp hv).1
    rw [ho.cellAt i (by omega), hv]
theorem crc_T3 (a b c : ByteArray) (h1 : a.size ≤ b.size) (h2 : a.size ≤ c.size) :
    crcS (textOf (T3 a b c a.size)) = crcS a ^^^ crcS (b.extract 0 a.size) ^^^ crcS (c.extract 0 a.size) := by
  have e : ∀ s : ByteArray, (s.extract 0 a.size).data.toList = s.data.toList.take a.size := by intro s; simp
  have ea : a.data.toList.take a.size = a.data.toList := List.take_of_length_le (by simp)
  have hl : ∀ s : ByteArray, a.size ≤ s.size → (s.data.toList.take a.size).length = a.data.toList.length := by
    intro s hs
    rw [List.length_take]
    have : s.data.toList.length = s.size := by simp
    have : a.data.toList.length = a.size := by simp
    omega
  unfold crcS T3
  rw [textOf_data, e b, e c, ea]
  exact crc_turn3 _ _ _ (hl b h1) (hl c h2)

section
variable {ρ : Operand → Value} {w : World}
theorem run_build {x : Tmp} {s : ByteArray} {d : Option Tmp} {t : TypeId} {pos : String} {af : Array Edge} {gd : Option (Nat × Bool)} (e : ρ (.tmp x) = .string s) :
    (execOp ρ { dst := d, op := Op.buildSlice 36 1 #[(0, .tmp x)], type := t, pos := pos, after := af, guard := gd }).run Try.prog w = .ok (.value (.slice (some ⟨w.heap.size, 0, none⟩) 1 1)) (w.alloc (.cells #[.string s] 9)) := by
  simp [execOp, e, go_sem]
theorem run_call9 {x : Tmp} {v : Value} {d : Option Tmp} {t : TypeId} {pos : String} {af : Array Edge} {gd : Option (Nat × Bool)} (e : ρ (.tmp x) = v) (hf : ρ (.func 9) = .func (.func 9) #[] #[]) :
    (execOp ρ { dst := d, op := Op.call { callee := .value (.func 9), args := #[.tmp x], argTypes := #[36] }, type := t, pos := pos, after := af, guard := gd }).run Try.prog w = .ok (.enter 9 #[v]) w := by
  simp [execOp, e, hf, go_sem]
theorem run_len {x : Tmp} {s : ByteArray} {d : Option Tmp} {t : TypeId} {pos : String} {af : Array Edge} {gd : Option (Nat × Bool)} (e : ρ (.tmp x) = .string s) :
    (execOp ρ { dst := d, op := Op.call { callee := .builtin .len, args := #[.tmp x], argTypes := #[9] }, type := t, pos := pos, after := af, guard := gd }).run Try.prog w = .ok (.value (.int .i64 s.size)) w := by
  simp [e, go_sem]
theorem run_cut {x y : Tmp} {s : ByteArray} {n : Nat} {d : Option Tmp} {t : TypeId} {pos : String} {af : Array Edge} {gd : Option (Nat × Bool)} (e : ρ (.tmp x) = .string s) (e2 : ρ (.tmp y) = .int .i64 n) (h : n ≤ s.size) :
    (execOp ρ { dst := d, op := Op.slice 9 (.tmp x) none (some (.tmp y)) none, type := t, pos := pos, after := af, guard := gd }).run Try.prog w = .ok (.value (.string (s.extract 0 n))) w := by
  have h' : (n : Int) ≤ (s.size : Int) := by omega
  simp [execOp, e, e2, go_sem, h']
theorem run_xor {x y : Tmp} {m n : Int} {d : Option Tmp} {t : TypeId} {pos : String} {af : Array Edge} {gd : Option (Nat × Bool)} (e : ρ (.tmp x) = .int .u32 m) (e2 : ρ (.tmp y) = .int .u32 n) :
    (execOp ρ { dst := d, op := Op.binOp .xor 22 (.tmp x) (.tmp y) 22, type := t, pos := pos, after := af, guard := gd }).run Try.prog w = .ok (.value (.int .u32 (bits .xor .u32 m n))) w := by
  simp [execOp, e, e2, go_sem]
theorem run_eq {x y : Tmp} {m : Int} {d : Option Tmp} {t : TypeId} {pos : String} {af : Array Edge} {gd : Option (Nat × Bool)} (e : ρ (.tmp x) = .int .u32 m) (e2 : ρ (.tmp y) = .int .u32 m) :
    (execOp ρ { dst := d, op := Op.binOp .eql 22 (.tmp x) (.tmp y) 22, type := t, pos := pos, after := af, guard := gd }).run Try.prog w = .ok (.value (.bool true)) w := by
  simp [execOp, e, e2, go_sem]
theorem run_conv {x : Tmp} {v u : Value} {d : Option Tmp} {t : TypeId} {pos : String} {af : Array Edge} {gd : Option (Nat × Bool)} (e : ρ (.tmp x) = v) (hc : (convert 33 9 v).run Try.prog w = .ok u w) :
    (execOp ρ { dst := d, op := Op.convert 33 9 (.tmp x), type := t, pos := pos, after := af, guard := gd }).run Try.prog w = .ok (.value u) w := by
  simp [execOp, e, hc, go_sem, Result.andThen]
end
theorem kind_new (w : World) (s : ByteArray) : (AnyOrder.Kind.row [.string s]).holds (.slice (some ⟨w.heap.size, 0, none⟩) 1 1) (w.alloc (.cells #[.string s] 9)) :=
  ⟨w.heap.size, rfl, by simp, fun j u hj => by
    match j, hj with
    | 0, hj => simp at hj; subst hj; simp [go_sem]⟩

def TurnInv (w : World) (g : Nat) (ns : List UInt8) (wx : World) : Prop := Below w.heap.size w wx ∧ Cells g ns wx
open AnyOrder in
def turnKinds (g : Nat) (a b c : ByteArray) (ns : List UInt8) : List Kind :=
  [.eq (.slice (some ⟨g, 0, none⟩) a.size a.size), .eq (.string (textOf ns)), .row [.string (textOf ns)], .eq (.int .u32 (N (crcS (textOf ns)))),
   .eq (.string a), .row [.string a], .eq (.int .u32 (N (crcS a))),
   .eq (.string b), .eq (.string a), .eq (.int .i64 a.size), .eq (.string (b.extract 0 a.size)), .row [.string (b.extract 0 a.size)], .eq (.int .u32 (N (crcS (b.extract 0 a.size)))),
   .eq (.int .u32 (N (crcS a ^^^ crcS (b.extract 0 a.size)))),
   .eq (.string c), .eq (.string a), .eq (.int .i64 a.size), .eq (.string (c.extract 0 a.size)), .row [.string (c.extract 0 a.size)], .eq (.int .u32 (N (crcS (c.extract 0 a.size)))),
   .eq (.int .u32 (N (crcS (textOf ns)))), .eq (.bool true), .eq (.bool true)]

set_option maxHeartbeats 1000000 in
theorem turns_walk (a b c : ByteArray) (w : World) (h0 : a.size ≤ 4096) (h1 : a.size ≤ b.size) (h2 : a.size ≤ c.size) (hb : b.size ≤ maxLen) (_hc : c.size ≤ maxLen) :
    Calls Try.prog 7 #[.string a, .string b, .string c] w fun e w' => e = .returned (.bool true) ∧ Below w.heap.size w w' := by
  unfold maxLen at hb _hc
  obtain ⟨i0, hi, hz0, hz1, hz2⟩ := info_parts Try.info5
  have g0 : decide (4096 < (a.size : Int)) = false := by simp; omega
  go_enter Try.func7, Try.ntmps7
  go_wp2_with fail
  refine (awake_below _).mono ?_
  rintro e w' ⟨rfl, hg⟩
  go_wp2_with (at_make; refine wpList_make_full _ rfl _ _ 33 rfl w'.heap.size 5 i0 (.int .u8 0) 1 Try.underlying33 hi hz0 hz1 _ _ _ _ a.size rfl rfl rfl rfl (by rw [hz2]; omega) (by unfold maxLen; omega) (Nat.le_refl _) ?_; intro w1 hown hgrow)
  have hrow : Row w w1 w'.heap.size a.size a b c 0 := by
    refine ⟨⟨_, hown, by simp [T3, cellsB, turn3], ?_⟩, hg.grown hgrow hg.size (by intro k hk; cases hk), hg.size⟩
    intro v hv
    simp [Value.cells, toList_madeCells_one] at hv
    exact ⟨0, hv.2⟩
  clear hown hgrow hi hz0 hz1 hz2
  generalize w'.heap.size = g at hrow
  clear hg
  go_loopg [8] a.size (fun k si wx => ∃ j : Nat, j ≤ a.size ∧ k = a.size - j ∧ si = .int .i64 (j : Int) ∧ Row w wx g a.size a b c j)
  case atStart => exact ⟨0, Nat.zero_le _, rfl, rfl, hrow⟩
  case round =>
    obtain ⟨j, hj, hg, rfl, hr⟩ := hrel
    have HG := Lib.hid hg; clear hg hrow
    by_cases hlt : j < a.size
    · obtain ⟨z, hcell⟩ := hr.cell hlt
      have hfr := hr.frozen
      have hx := u8_xor3 a[j] b[j] c[j]
      have b1 : (0 : Int) ≤ (j : Int) := by omega
      have b2 : (j : Int) < (a.size : Int) := by omega
      have b3 : (j : Int) < (b.size : Int) := by omega
      have b4 : (j : Int) < (c.size : Int) := by omega
      have b5 : j < b.size := by omega
      have b6 : j < c.size := by omega
      go_wp2
      go_region
      all_goals go_wp2
      all_goals
        go_roundg (a.size - (j + 1))
        case measure => have := HG.out; omega
        case rel => exact ⟨j + 1, by omega, rfl, by go_num, (hr.store hlt hlt b5 b6).drew⟩
    · have hC := hr.cells hlt hj
      have hn := T3_length a b c a.size (Nat.le_refl _) h1 h2
      have hfin := crc_T3 a b c h1 h2
      have hx1 := N_xor (crcS a) (crcS (b.extract 0 a.size))
      have hx2 := N_xor (crcS a ^^^ crcS (b.extract 0 a.size)) (crcS (c.extract 0 a.size))
      rw [← hfin] at hx2
      have hbel := hr.below
      have hts := textOf_size (T3 a b c a.size)
      rw [hn] at hts
      generalize T3 a b c a.size = ns at hC hn hx2 hts
      have b1 : (a.size : Int) ≤ (b.size : Int) := by omega
      have b2 : (a.size : Int) ≤ (c.size : Int) := by omega
      have b3 : (0 : Int) ≤ (a.size : Int) := by omega
      have HN := Lib.hid hn
      have HT := Lib.hid hts
      clear hr HG hfin hj g0 hn hts
      go_wp2
      refine AnyOrder.region_kinds (turnKinds g a b c ns) (TurnInv w g ns) (by kernel_rfl) (by kernel_rfl) ⟨hbel.drew, hC.drew⟩ ?_ ?_
      · intro i o listed a1 w2 ho st hdep
        match i, ho with
        | 0, ho => (injection ho with ho; subst ho; exact AnyOrder.step_value rfl rfl _ rfl st.inv (Below.refl _ _) (st.old 7 (by kernel_rfl)))
        | 1, ho => (injection ho with ho; subst ho; have e1 := st.done 0 51 (hdep ⟨0, .data⟩ (by simp) rfl) rfl; exact AnyOrder.step_value rfl rfl (.string (textOf ns)) (run_conv e1 (keepS HN.out st.inv.2).1) st.inv (Below.refl _ _) rfl)
        | 2, ho => (injection ho with ho; subst ho; have e1 := st.done 1 52 (hdep ⟨1, .data⟩ (by simp) rfl) rfl; exact AnyOrder.step_value rfl rfl _ (run_build e1) ⟨st.inv.1.alloc st.inv.1.size _, st.inv.2.alloc _⟩ ((Below.refl _ _).alloc (Nat.le_refl _) _) (kind_new _ _))
        | 3, ho => (injection ho with ho; subst ho; obtain ⟨bb, e1, e2, e3⟩ := st.done 2 53 (hdep ⟨2, .data⟩ (by simp) rfl) rfl; exact AnyOrder.step_call rfl rfl _ _ (run_call9 e1 rfl) ((of_s (textOf ns) _ _ (e3 0 _ rfl) (by rw [HT.out]; unfold maxLen; omega)).mono (fun e w3 h => by obtain ⟨rfl, rfl⟩ := h; exact ⟨_, rfl, st.inv, Below.refl _ _, rfl⟩)))
        | 4, ho => (injection ho with ho; subst ho; exact AnyOrder.step_value rfl rfl _ rfl st.inv (Below.refl _ _) (st.old 0 (by kernel_rfl)))
        | 5, ho => (injection ho with ho; subst ho; have e1 := st.done 4 55 (hdep ⟨4, .data⟩ (by simp) rfl) rfl; exact AnyOrder.step_value rfl rfl _ (run_build e1) ⟨st.inv.1.alloc st.inv.1.size _, st.inv.2.alloc _⟩ ((Below.refl _ _).alloc (Nat.le_refl _) _) (kind_new _ _))
        | 6, ho => (injection ho with ho; subst ho; obtain ⟨bb, e1, e2, e3⟩ := st.done 5 56 (hdep ⟨5, .data⟩ (by simp) rfl) rfl; exact AnyOrder.step_call rfl rfl _ _ (run_call9 e1 rfl) ((of_s a _ _ (e3 0 _ rfl) (by unfold maxLen; omega)).mono (fun e w3 h => by obtain ⟨rfl, rfl⟩ := h; exact ⟨_, rfl, st.inv, Below.refl _ _, rfl⟩)))
        | 7, ho => (injection ho with ho; subst ho; exact AnyOrder.step_value rfl rfl _ rfl st.inv (Below.refl _ _) (st.old 1 (by kernel_rfl)))
        | 8, ho => (injection ho with ho; subst ho; exact AnyOrder.step_value rfl rfl _ rfl st.inv (Below.refl _ _) (st.old 0 (by kernel_rfl)))
        | 9, ho => (injection ho with ho; subst ho; have e1 := st.done 8 59 (hdep ⟨8, .data⟩ (by simp) rfl) rfl; exact AnyOrder.step_value rfl rfl (.int .i64 a.size) (run_len e1) st.inv (Below.refl _ _) rfl)
        | 10, ho => (injection ho with ho; subst ho; have e1 := st.done 7 58 (hdep ⟨7, .data⟩ (by simp) rfl) rfl; have e2 := st.done 9 60 (hdep ⟨9, .data⟩ (by simp) rfl) rfl; exact AnyOrder.step_value rfl rfl (.string (b.extract 0 a.size)) (run_cut e1 e2 h1) st.inv (Below.refl _ _) rfl)
        | 11, ho => (injection ho with ho; subst ho; have e1 := st.done 10 61 (hdep ⟨10, .data⟩ (by simp) rfl) rfl; exact AnyOrder.step_value rfl rfl _ (run_build e1) ⟨st.inv.1.alloc st.inv.1.size _, st.inv.2.alloc _⟩ ((Below.refl _ _).alloc (Nat.le_refl _) _) (kind_new _ _))
        | 12, ho => (injection ho with ho; subst ho; obtain ⟨bb, e1, e2, e3⟩ := st.done 11 62 (hdep ⟨11, .data⟩ (by simp) rfl) rfl; exact AnyOrder.step_call rfl rfl _ _ (run_call9 e1 rfl) ((of_s (b.extract 0 a.size) _ _ (e3 0 _ rfl) (by simp; unfold maxLen; omega)).mono (fun e w3 h => by obtain ⟨rfl, rfl⟩ := h; exact ⟨_, rfl, st.inv, Below.refl _ _, rfl⟩)))
        | 13, ho => (injection ho with ho; subst ho; have e1 := st.done 6 57 (hdep ⟨6, .data⟩ (by simp) rfl) rfl; have e2 := st.done 12 63 (hdep ⟨12, .data⟩ (by simp) rfl) rfl; exact AnyOrder.step_value rfl rfl _ (run_xor e1 e2) st.inv (Below.refl _ _) (congrArg (Value.int .u32) hx1))
        | 14, ho => (injection ho with ho; subst ho; exact AnyOrder.step_value rfl rfl _ rfl st.inv (Below.refl _ _) (st.old 2 (by kernel_rfl)))
        | 15, ho => (injection ho with ho; subst ho; exact AnyOrder.step_value rfl rfl _ rfl st.inv (Below.refl _ _) (st.old 0 (by kernel_rfl)))
        | 16, ho => (injection ho with ho; subst ho; have e1 := st.done 15 66 (hdep ⟨15, .data⟩ (by simp) rfl) rfl; exact AnyOrder.step_value rfl rfl (.int .i64 a.size) (run_len e1) st.inv (Below.refl _ _) rfl)
        | 17, ho => (injection ho with ho; subst ho; have e1 := st.done 14 65 (hdep ⟨14, .data⟩ (by simp) rfl) rfl; have e2 := st.done 16 67 (hdep ⟨16, .data⟩ (by simp) rfl) rfl; exact AnyOrder.step_value rfl rfl (.string (c.extract 0 a.size)) (run_cut e1 e2 h2) st.inv (Below.refl _ _) rfl)
        | 18, ho => (injection ho with ho; subst ho; have e1 := st.done 17 68 (hdep ⟨17, .data⟩ (by simp) rfl) rfl; exact AnyOrder.step_value rfl rfl _ (run_build e1) ⟨st.inv.1.alloc st.inv.1.size _, st.inv.2.alloc _⟩ ((Below.refl _ _).alloc (Nat.le_refl _) _) (kind_new _ _))
        | 19, ho => (injection ho with ho; subst ho; obtain ⟨bb, e1, e2, e3⟩ := st.done 18 69 (hdep ⟨18, .data⟩ (by simp) rfl) rfl; exact AnyOrder.step_call rfl rfl _ _ (run_call9 e1 rfl) ((of_s (c.extract 0 a.size) _ _ (e3 0 _ rfl) (by simp; unfold maxLen; omega)).mono (fun e w3 h => by obtain ⟨rfl, rfl⟩ := h; exact ⟨_, rfl, st.inv, Below.refl _ _, rfl⟩)))
        | 20, ho => (injection ho with ho; subst ho; have e1 := st.done 13 64 (hdep ⟨13, .data⟩ (by simp) rfl) rfl; have e2 := st.done 19 70 (hdep ⟨19, .data⟩ (by simp) rfl) rfl; exact AnyOrder.step_value rfl rfl _ (run_xor e1 e2) st.inv (Below.refl _ _) (congrArg (Value.int .u32) hx2))
        | 21, ho => (injection ho with ho; subst ho; have e1 := st.done 3 54 (hdep ⟨3, .data⟩ (by simp) rfl) rfl; have e2 := st.done 20 71 (hdep ⟨20, .data⟩ (by simp) rfl) rfl; exact AnyOrder.step_value rfl rfl (.bool true) (run_eq e1 e2) st.inv (Below.refl _ _) rfl)
        | 22, ho => (injection ho with ho; subst ho; have e1 := st.done 21 72 (hdep ⟨21, .data⟩ (by simp) rfl) rfl; exact AnyOrder.step_value rfl rfl _ rfl st.inv (Below.refl _ _) e1)
        | n + 23, ho => simp at ho
      · intro a1 w2 st
        have e6 := st.done 22 6 rfl rfl
        have hd := st.defers
        have hb2 := st.inv.1
        have e7 : a1.tmps[6]?.getD undef = .bool true := by rw [← Array.getD_eq_getD_getElem?]; exact e6
        clear e6
        have hk := ‹∀ (a : Act) (w : World), Code.wp Try.prog Code.ret _ a w → _›
        refine hk a1 w2 ?_
        go_step
        refine bodyPost_ret (v := .bool true) ?_ hd ⟨rfl, hb2⟩
        simp [results, Try.results7, go_sem, e7]
end Go.Proofs.Ytljocchdmfeecaa
