/- The walk of the statement PackJoins. -/
import Derived.Test.YtoijipahcpdhcaaBack
import Derived.Deep.QuietTactic
import Derived.BigQuiet
namespace Go.Proofs.Ytoijipahcpdhcaa
open Go.RowKit Go.Lib Plain

/-- an act's bytes -/
def bytesA (x : Act) : List UInt8 := if x.kind = 1 then num x.wd x.n else num 2 x.s.size ++ x.s.data.toList
/-- whether it can be written -/
def okA (x : Act) : Bool := if x.kind = 1 then okNums x.wd [x.n] else true
theorem bytesA_1 {x : Act} (h : x.kind = 1) : bytesA x = num x.wd x.n := if_pos h
theorem bytesA_2 {x : Act} (h : ¬ x.kind = 1) : bytesA x = num 2 x.s.size ++ x.s.data.toList := if_neg h
theorem okA_1 {x : Act} (h : x.kind = 1) : okA x = okNums x.wd [x.n] := if_pos h
theorem okA_2 {x : Act} (h : ¬ x.kind = 1) : okA x = true := if_neg h

/-- the three Outs, the acts of both rows, those that were written, and how many bytes each took: each in memory of its own -/
structure JS (w wx : World) (px py pz gb cb gs cs gd cd : Nat) (vx vy vz : Value) (bx by_ bz : List UInt8) (both D : List Act) (zs : List Int) : Prop where
  x : Out wx w.heap.size px vx bx
  y : Out wx w.heap.size py vy by_
  z : Out wx w.heap.size pz vz bz
  xy : Sep vx vy
  xz : Sep vx vz
  yz : Sep vy vz
  b : OwnActs wx w.heap.size gb cb both
  d : OwnActs wx w.heap.size gd cd D
  s : OwnInts wx w.heap.size gs cs zs
  bd : gb ≠ gd
  below : Below w.heap.size w wx
  pxy : px ≠ py
  pxz : px ≠ pz
  pyz : py ≠ pz
section
variable {w wx w' : World} {px py pz gb cb gs cs gd cd : Nat} {vx vy vz : Value} {bx by_ bz : List UInt8} {both D : List Act} {zs : List Int}
theorem JS.alloc (h : JS w wx px py pz gb cb gs cs gd cd vx vy vz bx by_ bz both D zs) (o : Obj) : JS w (wx.alloc o) px py pz gb cb gs cs gd cd vx vy vz bx by_ bz both D zs :=
  ⟨h.x.alloc o, h.y.alloc o, h.z.alloc o, h.xy, h.xz, h.yz, h.b.alloc o, h.d.alloc o, h.s.alloc o, h.bd, h.below.alloc h.below.size o, h.pxy, h.pxz, h.pyz⟩
theorem out_lt {B p : Nat} {v : Value} {bs : List UInt8} (h : Out wx B p v bs) : ∀ g, v.ownBlock = some g → g < wx.heap.size := fun g hg => (h.own.lt g hg).2
theorem JS.writeZ {bz' : List UInt8} (h : JS w wx px py pz gb cb gs cs gd cd vx vy vz bx by_ bz both D zs) (hw : Wrote wx w.heap.size pz vz bz' w') : ∃ vz', JS w w' px py pz gb cb gs cs gd cd vx vy vz' bx by_ bz' both D zs := by
  obtain ⟨v', ho, hc, hl⟩ := hw
  exact ⟨v', h.z.other h.x h.pxz.symm h.xz.symm hc, h.z.other h.y h.pyz.symm h.yz.symm hc, ho, h.xy, (h.xz.symm.lies hl (out_lt h.x)).symm, (h.yz.symm.lies hl (out_lt h.y)).symm,
    h.b.chg hc (h.z.off_own h.b rfl (by decide) (by decide)), h.d.chg hc (h.z.off_own h.d rfl (by decide) (by decide)), h.s.chg hc (h.z.off_own h.s rfl (by decide) (by decide)), h.bd,
    h.below.trans (wrote_below h.z h.below.size hc), h.pxy, h.pxz, h.pyz⟩
theorem JS.writeX {bx' : List UInt8} (h : JS w wx px py pz gb cb gs cs gd cd vx vy vz bx by_ bz both D zs) (hw : Wrote wx w.heap.size px vx bx' w') : ∃ vx', JS w w' px py pz gb cb gs cs gd cd vx' vy vz bx' by_ bz both D zs := by
  obtain ⟨v', ho, hc, hl⟩ := hw
  exact ⟨v', ho, h.x.other h.y h.pxy h.xy hc, h.x.other h.z h.pxz h.xz hc, h.xy.lies hl (out_lt h.y), h.xz.lies hl (out_lt h.z), h.yz,
    h.b.chg hc (h.x.off_own h.b rfl (by decide) (by decide)), h.d.chg hc (h.x.off_own h.d rfl (by decide) (by decide)), h.s.chg hc (h.x.off_own h.s rfl (by decide) (by decide)), h.bd,
    h.below.trans (wrote_below h.x h.below.size hc), h.pxy, h.pxz, h.pyz⟩
theorem JS.writeY {by' : List UInt8} (h : JS w wx px py pz gb cb gs cs gd cd vx vy vz bx by_ bz both D zs) (hw : Wrote wx w.heap.size py vy by' w') : ∃ vy', JS w w' px py pz gb cb gs cs gd cd vx vy' vz bx by' bz both D zs := by
  obtain ⟨v', ho, hc, hl⟩ := hw
  exact ⟨v', h.y.other h.x h.pxy.symm h.xy.symm hc, ho, h.y.other h.z h.pyz h.yz hc, (h.xy.symm.lies hl (out_lt h.x)).symm, h.xz, h.yz.lies hl (out_lt h.z),
    h.b.chg hc (h.y.off_own h.b rfl (by decide) (by decide)), h.d.chg hc (h.y.off_own h.d rfl (by decide) (by decide)), h.s.chg hc (h.y.off_own h.s rfl (by decide) (by decide)), h.bd,
    h.below.trans (wrote_below h.y h.below.size hc), h.pxy, h.pxz, h.pyz⟩
theorem out_grown {B B' p g : Nat} {v u : Value} {bs : List UInt8} {e : TypeId} {size n : Nat} {xs : List Value} (h : Out wx B p v bs) (hu : wx.ownsRow B' e size u n xs) (hg : u.ownBlock = some g) (h5 : e ≠ 5) (h27 : e ≠ 27) (hgr : wx.grownBy w' (some g)) : Out w' B p v bs := by
  refine h.chg (Chg.grown hgr) ?_ ?_
  · intro e1; injection e1 with e1; subst e1; exact own_ne hu h.at_ h27 hg
  · intro k hk e1; injection e1 with e1; subst e1; exact own_ne2 h.own hu (Ne.symm h5) hk hg
theorem JS.pushS {gs' cs' : Nat} {zs' : List Int} (h : JS w wx px py pz gb cb gs cs gd cd vx vy vz bx by_ bz both D zs) (hgr : wx.grownBy w' (some gs)) (hn : OwnInts w' w.heap.size gs' cs' zs') : JS w w' px py pz gb cb gs' cs' gd cd vx vy vz bx by_ bz both D zs' :=
  ⟨out_grown h.x h.s rfl (by decide) (by decide) hgr, out_grown h.y h.s rfl (by decide) (by decide) hgr, out_grown h.z h.s rfl (by decide) (by decide) hgr, h.xy, h.xz, h.yz,
    h.b.chg (Chg.grown hgr) (fun e1 => by injection e1 with e1; subst e1; exact own_ne2 h.b h.s (by decide) rfl rfl), h.d.chg (Chg.grown hgr) (fun e1 => by injection e1 with e1; subst e1; exact own_ne2 h.d h.s (by decide) rfl rfl), hn, h.bd,
    h.below.grown hgr h.below.size (fun k e1 => by injection e1 with e1; subst e1; exact h.s.lt.1), h.pxy, h.pxz, h.pyz⟩
theorem JS.pushD {gd' cd' : Nat} {D' : List Act} (h : JS w wx px py pz gb cb gs cs gd cd vx vy vz bx by_ bz both D zs) (hgr : wx.grownBy w' (some gd)) (hn : OwnActs w' w.heap.size gd' cd' D') (hg : gd' = gd ∨ wx.heap.size ≤ gd') : JS w w' px py pz gb cb gs cs gd' cd' vx vy vz bx by_ bz both D' zs :=
  ⟨out_grown h.x h.d rfl (by decide) (by decide) hgr, out_grown h.y h.d rfl (by decide) (by decide) hgr, out_grown h.z h.d rfl (by decide) (by decide) hgr, h.xy, h.xz, h.yz,
    h.b.chg (Chg.grown hgr) (fun e1 => by injection e1 with e1; exact h.bd e1.symm), hn, h.s.chg (Chg.grown hgr) (fun e1 => by injection e1 with e1; subst e1; exact own_ne2 h.s h.d (by decide) rfl rfl), (by
      rcases hg with rfl | hg
      · exact h.bd
      · have := h.b.lt.2; omega),
    h.below.grown hgr h.below.size (fun k e1 => by injection e1 with e1; subst e1; exact h.d.lt.1), h.pxy, h.pxz, h.pyz⟩
end

/-- at a round's head -/
structure JL (w wx : World) (px py pz gb cb : Nat) (both : List Act) (la j gs cs gd cd : Nat) (D : List Act) : Prop where
  ex : ∃ vx vy vz bx by_, JS w wx px py pz gb cb gs cs gd cd vx vy vz bx by_ (bx ++ by_) both D (D.map fun a => ((bytesA a).length : Int)) ∧ (j ≤ la → by_ = []) ∧ bx ++ by_ = D.flatMap bytesA
  dok : ∀ a ∈ D, a.Ok ∧ a.s.size ≤ 1024 ∧ okA a = true
  dl : D.length ≤ j
  len : (D.flatMap bytesA).length ≤ j * 2000
theorem At.wrote {w w' : World} {B p g : Nat} {v : Value} {bs bs' : List UInt8} {cs : Array Value} (h : At w g 29 cs) (ho : Out w B p v bs) (hw : Wrote w B p v bs' w') : At w' g 29 cs := by
  obtain ⟨_, _, hc, _⟩ := hw
  exact h.chg hc (ho.off_at h (by decide) (by decide))

theorem At.grown {w w' : World} {B g gs : Nat} {u : Value} {e : TypeId} {size n : Nat} {xs : List Value} {cs : Array Value} (h : At w g 29 cs) (hu : w.ownsRow B e size u n xs) (hg : u.ownBlock = some gs) (he : e ≠ 29) (hgr : w.grownBy w' (some gs)) : At w' g 29 cs := by
  refine h.chg (Chg.grown hgr) ?_
  intro e1; injection e1 with e1; subst e1; exact own_ne hu h he hg
theorem ints_row {w : World} {B g cap n : Nat} {zs : List Int} (h : OwnInts w B g cap zs) (hn : zs.length = n) : w.ownsRow B 3 1 (.slice (some ⟨g, 0, none⟩) n cap) n (zs.map (Value.int .i64)) := by subst hn; exact h
theorem ints_push {w : World} {B g cap n : Nat} {zs : List Int} {z : Int} (hn : zs.length = n) (h : w.ownsRow B 3 1 (.slice (some ⟨g, 0, none⟩) (n + 1) cap) (n + 1) (zs.map (Value.int .i64) ++ [.int .i64 z])) : OwnInts w B g cap (zs ++ [z]) := by
  subst hn; unfold OwnInts; simpa using h
theorem src_new (w : World) (x : Act) : SrcActs (w.alloc (.cells #[.int .i64 x.kind, .int .i64 x.wd, .int .i64 x.n, .int .i64 x.m, .string x.s] 29)) (some ⟨w.heap.size, 0, none⟩) 1 [x] := by
  refine .inr ⟨_, rfl, fun j u hj => ?_⟩
  have := World.news_of_block (heap_alloc_new w (.cells (xcells x) 29)) j u (by simpa [actCells] using hj)
  exact this
theorem lens_snoc (D : List Act) (x : Act) : (D ++ [x]).map (fun a => ((bytesA a).length : Int)) = D.map (fun a => ((bytesA a).length : Int)) ++ [((bytesA x).length : Int)] := by simp
theorem flat_snoc (D : List Act) (x : Act) : (D ++ [x]).flatMap bytesA = D.flatMap bytesA ++ bytesA x := by simp
theorem nums_one (wd n : Int) : nums wd [n] = num wd n := by simp [nums]

theorem drop_flat (D : List Act) (k : Nat) (h : k < D.length) : (D.drop k).flatMap bytesA = bytesA (D.getD k noAct) ++ (D.drop (k + 1)).flatMap bytesA := by
  rw [List.drop_eq_getElem_cons h, List.flatMap_cons]; simp [h]
theorem quietL {P : Program} {f : FuncId} {args : Array Value} {w : World} {n : Nat} {v : Value}
    (h : Calls P f args (w.drewN n) fun e w' => e = .returned v ∧ w.drewN n = w') : Calls P f args (w.drewN n) fun e w'' => e = .returned v ∧ ∃ m, w'' = w.drewN m :=
  h.mono fun _ _ ⟨he, hm⟩ => ⟨he, n, hm.symm⟩
theorem left_val {w : World} {p r : Nat} {s : ByteArray} {bad : Bool} (h : InAt w p s bad) (hr : s.size = r) : Calls Try.prog 21 #[.pointer (some ⟨p, 0, none⟩)] w fun e w' => e = .returned (.int .i64 (r : Int)) ∧ w = w' := by
  subst hr; exact left_some h
theorem InAt.drewN {w : World} {p : Nat} {s : ByteArray} {bad : Bool} (h : InAt w p s bad) (n : Nat) : InAt (w.drewN n) p s bad := h
/-- the second loop's round head -/
structure JR (w wx : World) (p gs cs gd cd : Nat) (D : List Act) (k : Nat) : Prop where
  inn : InAt wx p (textOf ((D.drop k).flatMap bytesA)) false
  d : OwnActs wx w.heap.size gd cd D
  s : OwnInts wx w.heap.size gs cs (D.map fun a => ((bytesA a).length : Int))
  below : Below w.heap.size w wx
theorem JR.step {w wx w' : World} {p gs cs gd cd : Nat} {D : List Act} {k : Nat} {T : ByteArray} (h : JR w wx p gs cs gd cd D k) (ht : Took wx p T false w') (hT : T = textOf ((D.drop (k + 1)).flatMap bytesA)) (hp : w.heap.size ≤ p) : JR w w' p gs cs gd cd D (k + 1) := by
  subst hT
  refine ⟨ht.1, h.d.chg ht.2 ?_, h.s.chg ht.2 ?_, h.below.trans (ht.2.toBelow h.below.size (fun k hk e => by omega))⟩
  · intro e; subst e; exact own_ne h.d h.inn (by decide) rfl
  · intro e; subst e; exact own_ne h.s h.inn (by decide) rfl

set_option maxRecDepth 100000 in
set_option maxHeartbeats 3200000 in
theorem packJoins_walk (A1 : Option Addr) (cap1 : Nat) (la : List Act) (A2 : Option Addr) (cap2 : Nat) (bs : List Act) (w : World) (hok1 : ∀ y ∈ la, y.Ok) (hA1 : SrcActs w A1 cap1 la) (hl1 : la.length ≤ maxLen) (hok2 : ∀ y ∈ bs, y.Ok) (hA2 : SrcActs w A2 cap2 bs) (hl2 : bs.length ≤ maxLen) :
    Calls Try.prog 7 #[.slice A1 la.length cap1, .slice A2 bs.length cap2] w fun e w' => e = .returned (.bool true) ∧ Below w.heap.size w w' := by
  unfold maxLen at hl1 hl2
  have HOK1 := Lib.hid hok1; have HOK2 := Lib.hid hok2; have HA1 := Lib.hid hA1; have HA2 := Lib.hid hA2; clear hok1 hok2 hA1 hA2
  by_cases hb1 : 30 < la.length
  · go_enter Try.func7, Try.ntmps7
    go_wp2_with (go_at_call 8; refine (awake_any _).mono ?_; rintro e w' ⟨rfl, hb⟩)
    go_ret
    exact ⟨rfl, hb⟩
  by_cases hb2 : 30 < bs.length
  · go_enter Try.func7, Try.ntmps7
    go_wp2_with (go_at_call 8; refine (awake_any _).mono ?_; rintro e w' ⟨rfl, hb⟩)
    go_ret
    exact ⟨rfl, hb⟩
  go_enter Try.func7, Try.ntmps7
  go_wp2_with fail
  refine (awake_any _).mono ?_
  rintro e w1 ⟨rfl, hbw1⟩
  have HB1 := Lib.hid hbw1; clear hbw1
  have z1 : w.heap.size ≤ w1.heap.size := HB1.out.size
  have HX1 := Lib.hid z1
  -- the world ahead of the two appends
  obtain ⟨w4, h4⟩ : ∃ w4, w4 = ((w1.alloc (.cells #[.slice none 0 0] 27)).alloc (.cells #[.slice none 0 0] 27)).alloc (.cells #[.slice none 0 0] 27) := ⟨_, rfl⟩
  have s4 : w4.heap.size = w1.heap.size + 1 + 1 + 1 := by rw [h4]; simp
  have x4 : Out w4 w.heap.size w1.heap.size (.slice none 0 0) [] := by rw [h4]; exact ((Out.new w1 _ z1).alloc _).alloc _
  have y4 : Out w4 w.heap.size (w1.heap.size + 1) (.slice none 0 0) [] := by
    rw [h4]; have := (Out.new (w1.alloc (.cells #[.slice none 0 0] 27)) w.heap.size (by simp; omega)).alloc (.cells #[.slice none 0 0] 27); simpa using this
  have zz4 : Out w4 w.heap.size (w1.heap.size + 1 + 1) (.slice none 0 0) [] := by
    rw [h4]; have := Out.new ((w1.alloc (.cells #[.slice none 0 0] 27)).alloc (.cells #[.slice none 0 0] 27)) w.heap.size (by simp; omega); simpa using this
  have b4 : Below w.heap.size w w4 := by
    rw [h4]; exact ((HB1.out.alloc z1 _).alloc (by simp; omega) _).alloc (by simp; omega) _
  have o5 : OwnActs (w4.alloc (.cells #[] 29)) w.heap.size (w1.heap.size + 1 + 1 + 1) 0 [] := by
    rw [← s4]; exact World.ownsRow_made w4 #[] 0 (by omega) (by unfold maxLen; omega) rfl
  have src1 : SrcActs (w4.alloc (.cells #[] 29)) A1 cap1 la := HA1.out.keep (b4.alloc (by omega) _)
  have z4 : w.heap.size ≤ w4.heap.size := by omega
  have X4 := Lib.hid x4; have Y4 := Lib.hid y4; have Z4 := Lib.hid zz4; have B4 := Lib.hid b4; have O5 := Lib.hid o5; have SRC1 := Lib.hid src1; have S4 := Lib.hid s4; clear x4 y4 zz4 b4 o5 src1
  clear s4
  go_wp2_with (first
    | (at_builtin; rw [← h4]; (refine wpList_append_acts _ rfl (.tmp 36) (.tmp 37) rfl w.heap.size (w1.heap.size + 1 + 1 + 1) 0 0 [] O5.out rfl rfl A1 la.length cap1 la SRC1.out rfl rfl (by simp; omega) (by simp; omega) la.length (by omega) w4.heap.size.succ (by simp) ?_); intro g6 cap6 w6 hown6 hgrow6 hat6; clear h4; have b6 : Below w.heap.size w w6 := (B4.out.alloc z4 _).grown hgrow6 (by simp; omega) (fun k e1 => (by injection e1 with e1; omega)); have z6 : w.heap.size ≤ w6.heap.size := b6.size; have hown6' : OwnActs w6 w.heap.size g6 cap6 la := hown6; have src2 : SrcActs w6 A2 cap2 bs := HA2.out.keep b6; have B6 := Lib.hid b6; have O6 := Lib.hid hown6'; have SRC2 := Lib.hid src2; have GR6 := Lib.hid hgrow6; have AT6 := Lib.hid hat6; clear b6 hown6 hown6' src2 hgrow6 hat6)
    | (at_builtin; (refine wpList_append_acts _ rfl (.tmp 38) (.tmp 39) rfl w.heap.size g6 cap6 la.length la O6.out rfl rfl A2 bs.length cap2 bs SRC2.out rfl rfl (by omega) z6 (la ++ bs).length (by simp) w6.heap.size rfl ?_); intro g7 cap7 w7 hown7 hgrow7 hat7; have b7 : Below w.heap.size w w7 := B6.out.grown hgrow7 z6 (fun k e1 => (by injection e1 with e1; subst e1; exact O6.out.lt.1)); have B7 := Lib.hid b7; have O7 := Lib.hid hown7; have GR7 := Lib.hid hgrow7; have AT7 := Lib.hid hat7; clear b7 hown7 hgrow7 hat7))
  -- the loop's start
  have js0 : JS w ((w7.alloc (.cells #[] 3)).alloc (.cells #[] 29)) w1.heap.size (w1.heap.size + 1) (w1.heap.size + 1 + 1) g7 cap7 w7.heap.size 0 (w7.heap.size + 1) 0 (.slice none 0 0) (.slice none 0 0) (.slice none 0 0) [] [] [] (la ++ bs) [] [] := by
    have up : ∀ p, Out w4 w.heap.size p (.slice none 0 0) [] → Out ((w7.alloc (.cells #[] 3)).alloc (.cells #[] 29)) w.heap.size p (.slice none 0 0) [] := fun p h =>
      ((out_grown (out_grown (h.alloc (.cells #[] 29)) O5.out rfl (by decide) (by decide) GR6.out) O6.out rfl (by decide) (by decide) GR7.out).alloc _).alloc _
    have hg7 := O7.out.lt.2
    refine ⟨up _ X4.out, up _ Y4.out, up _ Z4.out, Sep.nil _, Sep.nil _, Sep.nil _, (O7.out.alloc _).alloc _, ?_, ?_, by omega, (B7.out.alloc B7.out.size _).alloc (by have := B7.out.size; simp; omega) _, by omega, by omega, by omega⟩
    · have := World.ownsRow_made (base := w.heap.size) (e := 29) (size := 5) (w7.alloc (.cells #[] 3)) #[] 0 (by have := B7.out.size; simp; omega) (by unfold maxLen; omega) rfl
      simpa [OwnActs, actCells] using this
    · exact OwnInts.alloc (zs := []) (World.ownsRow_made (base := w.heap.size) (e := 3) (size := 1) w7 #[] 0 B7.out.size (by unfold maxLen; omega) rfl) _
  have JS0 := Lib.hid js0; clear js0
  have HOK : Hid (∀ y ∈ la ++ bs, y.Ok) := fun y hy => (List.mem_append.1 hy).elim (HOK1.out y) (HOK2.out y)
  have HLB : Hid ((la ++ bs).length = la.length + bs.length) := List.length_append
  clear HOK1 HOK2 HA1 HA2 X4 Y4 Z4 B4 O5 SRC1 S4 B6 O6 SRC2 GR6 AT6 B7 O7 GR7 AT7
  generalize la ++ bs = both at JS0 HOK HLB
  generalize w1.heap.size + 1 + 1 = pz at JS0 ⊢
  generalize w1.heap.size + 1 = py at JS0 ⊢
  generalize w1.heap.size = px at JS0 ⊢
  go_loopg [9, 10, 11] (la.length + bs.length) (fun g s9 s10 s11 wx => ∃ (j gs cs gd cd : Nat) (D : List Act), j ≤ la.length + bs.length ∧ g = la.length + bs.length - j ∧ s9 = .slice (some ⟨gs, 0, none⟩) D.length cs ∧ s10 = .slice (some ⟨gd, 0, none⟩) D.length cd ∧ s11 = .int .i64 (j : Int) ∧ JL w wx px py pz g7 cap7 both la.length j gs cs gd cd D)
  case atStart => exact ⟨0, _, _, _, _, [], Nat.zero_le _, rfl, rfl, rfl, rfl, ⟨⟨_, _, _, [], [], JS0.out, fun _ => rfl, rfl⟩, by simp, by simp, by simp⟩⟩
  case round =>
    obtain ⟨j, gs, cs, gd, cd, D, hj, hg, rfl, rfl, rfl, hjl⟩ := hrel
    have HG := Lib.hid hg; clear hg JS0
    obtain ⟨vx, vy, vz, bx, by_, hjs, hearly, hflat⟩ := hjl.ex
    have HJ := Lib.hid hjs; have HE := Lib.hid hearly; have HF := Lib.hid hflat; have HJL := Lib.hid hjl; clear hjs hearly hflat hjl
    by_cases hlt : j < la.length + bs.length
    · have hact := HJ.out.b.act j (by have := HLB.out; omega)
      have hxok : (both.getD j noAct).Ok := HOK.out _ (by simp [show j < both.length by have := HLB.out; omega])
      generalize both.getD j noAct = x at hact hxok
      have c0 := hact.c0; have c1 := hact.c1; have c2 := hact.c2; have c3 := hact.c3; have c4 := hact.c4
      have HX := Lib.hid hxok; clear hact hxok
      by_cases hbig : 1024 < x.s.size
      · go_wp2_with fail
        go_ret
        exact ⟨rfl, HJ.out.below.alloc HJ.out.below.size _⟩
      have hlen : (bx ++ by_).length ≤ 200000 := by rw [HF.out]; have := HJL.out.len; omega
      have hlx : bx.length ≤ 200000 := by rw [List.length_append] at hlen; omega
      have hly : by_.length ≤ 200000 := by rw [List.length_append] at hlen; omega
      obtain ⟨bz, hbz⟩ : ∃ bz, bx ++ by_ = bz := ⟨_, rfl⟩
      have j0 : JS w (wr.alloc (.cells #[.int .i64 x.kind, .int .i64 x.wd, .int .i64 x.n, .int .i64 x.m, .string x.s] 29)) px py pz g7 cap7 gs cs gd cd vx vy vz bx by_ bz both D (D.map fun a => ((bytesA a).length : Int)) := by rw [← hbz]; exact HJ.out.alloc _
      have x0 : At (wr.alloc (.cells #[.int .i64 x.kind, .int .i64 x.wd, .int .i64 x.n, .int .i64 x.m, .string x.s] 29)) wr.heap.size 29 #[.int .i64 x.kind, .int .i64 x.wd, .int .i64 x.n, .int .i64 x.m, .string x.s] := At.new _ _ _
      have hzw : w.heap.size ≤ wr.heap.size := HJ.out.below.size
      obtain ⟨L, hL⟩ : ∃ L, bz.length = L := ⟨_, rfl⟩
      obtain ⟨m, hm⟩ : ∃ m, (bytesA x).length = m := ⟨_, rfl⟩
      have hLb : L ≤ 200000 := by rw [← hL, ← hbz]; exact hlen
      have HL := Lib.hid hL; have HM := Lib.hid hm; have HBZ := Lib.hid hbz; clear hL hm hbz hlen
      have J0 := Lib.hid j0; have X0 := Lib.hid x0; clear j0 x0
      have HLX := Lib.hid hlx; have HLY := Lib.hid hly; clear hlx hly
      by_cases hk1 : x.kind = 1
      · have hk1' : (x.kind == 1) = true := by simpa using hk1
        have HK1 := Lib.hid hk1; clear hk1
        by_cases hok : okNums x.wd [x.n] = true
        · have HOKN := Lib.hid hok; clear hok
          by_cases hla : j < la.length
          · go_wp2_with fail
            refine (len_some J0.out.z).mono ?_
            rintro e w' ⟨rfl, rfl⟩
            rw [HL.out]
            go_wp2_with fail
            refine (num_one w.heap.size pz (wr.heap.size + 1) 1 vz bz x.wd x.n _ (J0.out.alloc _).z (by simp; omega) (by simp [go_sem]) HX.out.n (by have := HL.out; omega) (J0.out.z.not_new (by simp))).mono ?_
            rintro e wA ⟨rfl, hwA⟩
            rw [HOKN.out]
            rw [numd_yes _ HOKN.out, nums_one, ← bytesA_1 HK1.out] at hwA
            obtain ⟨vz', ja⟩ := (J0.out.alloc _).writeZ hwA
            have xa := At.wrote (X0.out.alloc _) (J0.out.alloc _).z hwA
            have k0 := At.cell xa 0; have k1 := At.cell xa 1; have k2 := At.cell xa 2; have k3 := At.cell xa 3; have k4 := At.cell xa 4
            have zA : w.heap.size ≤ wA.heap.size := ja.below.size
            have JA := Lib.hid ja; have XA := Lib.hid xa; clear ja xa hwA
            go_wp2_with fail
            refine (num_one w.heap.size px wA.heap.size 1 vx bx x.wd x.n _ (JA.out.alloc _).x (by simp; omega) (by simp [go_sem]) HX.out.n (by have := HLX.out; omega) (JA.out.x.not_new (Nat.le_refl _))).mono ?_
            rintro e wB ⟨rfl, hwB⟩
            rw [HOKN.out]
            rw [numd_yes _ HOKN.out, nums_one, ← bytesA_1 HK1.out] at hwB
            obtain ⟨vo', jb⟩ := (JA.out.alloc _).writeX hwB
            have xb := At.wrote (XA.out.alloc _) (JA.out.alloc _).x hwB
            clear k0 k1 k2 k3 k4
            have k0 := At.cell xb 0; have k1 := At.cell xb 1; have k2 := At.cell xb 2; have k3 := At.cell xb 3; have k4 := At.cell xb 4
            have zB : w.heap.size ≤ wB.heap.size := jb.below.size
            have JB := Lib.hid jb; have XB := Lib.hid xb; clear jb xb hwB JA XA
            have hLm : (bz ++ bytesA x).length = L + m := by rw [List.length_append, HL.out, HM.out]
            have hmb : m ≤ 1100 := by rw [← HM.out, bytesA_1 HK1.out, num_length]; have := (wide_iff _).1 (ok_one HOKN.out).1; omega
            have HLM := Lib.hid hLm; clear hLm
            have hD60 : D.length ≤ 60 := by have := HJL.out.dl; omega
            obtain ⟨i3, hi3, hz30, hz31, hz32⟩ := info_parts info3
            have I3 := Lib.hid hi3; have Z30 := Lib.hid hz30; have Z31 := Lib.hid hz31; have Z32 := Lib.hid hz32; clear hi3 hz30 hz31 hz32
            go_wp2_with (first
              | (go_at_call 14; refine (len_some JB.out.z).mono ?_; rintro e w' ⟨rfl, rfl⟩; rw [HLM.out])
              | (at_builtin; (refine wpList_append_lies _ rfl (.tmp 107) (.tmp 112) 46 rfl w.heap.size 3 i3 _ 1 8 Try.underlying46 I3.out Z30.out Z31.out Z32.out rfl (by omega) (.slice (some ⟨gs, 0, none⟩) D.length cs) D.length _ rfl (ints_row (JB.out.alloc _).s (by simp)) ⟨wB.heap.size, 0, none⟩ 1 1 [.int .i64 ((L : Int) + (m : Int) - (L : Int))] rfl rfl (World.news_of_block (heap_alloc_new wB _)) (by simp [Value.oneCell']) (by omega) (by unfold maxLen; omega) (by omega) (by simp; omega) (wB.heap.size + 1) (by simp) ?_); intro g8 cap8 w8 hown8 hgrow8 hat8 hlt8; have x8 := At.grown (XB.out.alloc _) (JB.out.alloc _).s rfl (by decide) hgrow8; have h8 : OwnInts w8 w.heap.size g8 cap8 ((D ++ [x]).map fun a => ((bytesA a).length : Int)) := (by rw [lens_snoc]; refine ints_push (n := D.length) (by simp) ?_; rw [HM.out]; have e9 : (L : Int) + (m : Int) - (L : Int) = (m : Int) := (by omega); rw [e9] at hown8; exact hown8); have j8 := (JB.out.alloc _).pushS hgrow8 h8; clear k0 k1 k2 k3 k4; have k0 := At.cell x8 0; have k1 := At.cell x8 1; have k2 := At.cell x8 2; have k3 := At.cell x8 3; have k4 := At.cell x8 4; have z8 : w.heap.size ≤ w8.heap.size := j8.below.size; have J8 := Lib.hid j8; clear j8 x8 h8 hown8 hgrow8 hat8)
              | (at_builtin; (refine wpList_append_acts _ rfl (.tmp 114) (.tmp 116) rfl w.heap.size gd cd D.length D (J8.out.alloc _).d rfl rfl (some ⟨w8.heap.size, 0, none⟩) 1 1 [x] (src_new w8 x) rfl rfl (by simp; omega) (by simp; omega) (D.length + 1) rfl (w8.heap.size + 1) (by simp) ?_); intro g9 cap9 w9 hown9 hgrow9 hat9; have j9 := (J8.out.alloc _).pushD hgrow9 hown9 (hat9.imp id (fun h => (by simp; omega))); have J9 := Lib.hid j9; clear j9 hown9 hgrow9 hat9))
            go_roundg (la.length + bs.length - (j + 1))
            case measure => have := HG.out; omega
            case rel =>
              have ez : (bx ++ bytesA x) ++ by_ = bz ++ bytesA x := by rw [← HBZ.out, HE.out (by omega)]; simp
              refine ⟨j + 1, g8, cap8, g9, cap9, D ++ [x], by omega, rfl, by simp, by simp, by go_num, ⟨⟨vo', vy, vz', bx ++ bytesA x, by_, by rw [ez]; exact J9.out, fun _ => HE.out (by omega), by rw [ez, flat_snoc, ← HF.out, HBZ.out]⟩, ?_, by have := HJL.out.dl; simp; omega, ?_⟩⟩
              · intro a ha
                rcases List.mem_append.1 ha with ha | ha
                · exact HJL.out.dok a ha
                · simp at ha; subst ha; exact ⟨HX.out, by omega, by rw [okA_1 HK1.out]; exact HOKN.out⟩
              · rw [flat_snoc, List.length_append, HM.out]; have := HJL.out.len; omega
          · go_wp2_with fail
            refine (len_some J0.out.z).mono ?_
            rintro e w' ⟨rfl, rfl⟩
            rw [HL.out]
            go_wp2_with fail
            refine (num_one w.heap.size pz (wr.heap.size + 1) 1 vz bz x.wd x.n _ (J0.out.alloc _).z (by simp; omega) (by simp [go_sem]) HX.out.n (by have := HL.out; omega) (J0.out.z.not_new (by simp))).mono ?_
            rintro e wA ⟨rfl, hwA⟩
            rw [HOKN.out]
            rw [numd_yes _ HOKN.out, nums_one, ← bytesA_1 HK1.out] at hwA
            obtain ⟨vz', ja⟩ := (J0.out.alloc _).writeZ hwA
            have xa := At.wrote (X0.out.alloc _) (J0.out.alloc _).z hwA
            have k0 := At.cell xa 0; have k1 := At.cell xa 1; have k2 := At.cell xa 2; have k3 := At.cell xa 3; have k4 := At.cell xa 4
            have zA : w.heap.size ≤ wA.heap.size := ja.below.size
            have JA := Lib.hid ja; have XA := Lib.hid xa; clear ja xa hwA
            go_wp2_with fail
            refine (num_one w.heap.size py wA.heap.size 1 vy by_ x.wd x.n _ (JA.out.alloc _).y (by simp; omega) (by simp [go_sem]) HX.out.n (by have := HLY.out; omega) (JA.out.y.not_new (Nat.le_refl _))).mono ?_
            rintro e wB ⟨rfl, hwB⟩
            rw [HOKN.out]
            rw [numd_yes _ HOKN.out, nums_one, ← bytesA_1 HK1.out] at hwB
            obtain ⟨vo', jb⟩ := (JA.out.alloc _).writeY hwB
            have xb := At.wrote (XA.out.alloc _) (JA.out.alloc _).y hwB
            clear k0 k1 k2 k3 k4
            have k0 := At.cell xb 0; have k1 := At.cell xb 1; have k2 := At.cell xb 2; have k3 := At.cell xb 3; have k4 := At.cell xb 4
            have zB : w.heap.size ≤ wB.heap.size := jb.below.size
            have JB := Lib.hid jb; have XB := Lib.hid xb; clear jb xb hwB JA XA
            have hLm : (bz ++ bytesA x).length = L + m := by rw [List.length_append, HL.out, HM.out]
            have hmb : m ≤ 1100 := by rw [← HM.out, bytesA_1 HK1.out, num_length]; have := (wide_iff _).1 (ok_one HOKN.out).1; omega
            have HLM := Lib.hid hLm; clear hLm
            have hD60 : D.length ≤ 60 := by have := HJL.out.dl; omega
            obtain ⟨i3, hi3, hz30, hz31, hz32⟩ := info_parts info3
            have I3 := Lib.hid hi3; have Z30 := Lib.hid hz30; have Z31 := Lib.hid hz31; have Z32 := Lib.hid hz32; clear hi3 hz30 hz31 hz32
            go_wp2_with (first
              | (go_at_call 14; refine (len_some JB.out.z).mono ?_; rintro e w' ⟨rfl, rfl⟩; rw [HLM.out])
              | (at_builtin; (refine wpList_append_lies _ rfl (.tmp 107) (.tmp 112) 46 rfl w.heap.size 3 i3 _ 1 8 Try.underlying46 I3.out Z30.out Z31.out Z32.out rfl (by omega) (.slice (some ⟨gs, 0, none⟩) D.length cs) D.length _ rfl (ints_row (JB.out.alloc _).s (by simp)) ⟨wB.heap.size, 0, none⟩ 1 1 [.int .i64 ((L : Int) + (m : Int) - (L : Int))] rfl rfl (World.news_of_block (heap_alloc_new wB _)) (by simp [Value.oneCell']) (by omega) (by unfold maxLen; omega) (by omega) (by simp; omega) (wB.heap.size + 1) (by simp) ?_); intro g8 cap8 w8 hown8 hgrow8 hat8 hlt8; have x8 := At.grown (XB.out.alloc _) (JB.out.alloc _).s rfl (by decide) hgrow8; have h8 : OwnInts w8 w.heap.size g8 cap8 ((D ++ [x]).map fun a => ((bytesA a).length : Int)) := (by rw [lens_snoc]; refine ints_push (n := D.length) (by simp) ?_; rw [HM.out]; have e9 : (L : Int) + (m : Int) - (L : Int) = (m : Int) := (by omega); rw [e9] at hown8; exact hown8); have j8 := (JB.out.alloc _).pushS hgrow8 h8; clear k0 k1 k2 k3 k4; have k0 := At.cell x8 0; have k1 := At.cell x8 1; have k2 := At.cell x8 2; have k3 := At.cell x8 3; have k4 := At.cell x8 4; have z8 : w.heap.size ≤ w8.heap.size := j8.below.size; have J8 := Lib.hid j8; clear j8 x8 h8 hown8 hgrow8 hat8)
              | (at_builtin; (refine wpList_append_acts _ rfl (.tmp 114) (.tmp 116) rfl w.heap.size gd cd D.length D (J8.out.alloc _).d rfl rfl (some ⟨w8.heap.size, 0, none⟩) 1 1 [x] (src_new w8 x) rfl rfl (by simp; omega) (by simp; omega) (D.length + 1) rfl (w8.heap.size + 1) (by simp) ?_); intro g9 cap9 w9 hown9 hgrow9 hat9; have j9 := (J8.out.alloc _).pushD hgrow9 hown9 (hat9.imp id (fun h => (by simp; omega))); have J9 := Lib.hid j9; clear j9 hown9 hgrow9 hat9))
            go_roundg (la.length + bs.length - (j + 1))
            case measure => have := HG.out; omega
            case rel =>
              have ez : bx ++ (by_ ++ bytesA x) = bz ++ bytesA x := by rw [← HBZ.out, List.append_assoc]
              refine ⟨j + 1, g8, cap8, g9, cap9, D ++ [x], by omega, rfl, by simp, by simp, by go_num, ⟨⟨vx, vo', vz', bx, by_ ++ bytesA x, by rw [ez]; exact J9.out, fun h9 => absurd h9 (by omega), by rw [ez, flat_snoc, ← HF.out, HBZ.out]⟩, ?_, by have := HJL.out.dl; simp; omega, ?_⟩⟩
              · intro a ha
                rcases List.mem_append.1 ha with ha | ha
                · exact HJL.out.dok a ha
                · simp at ha; subst ha; exact ⟨HX.out, by omega, by rw [okA_1 HK1.out]; exact HOKN.out⟩
              · rw [flat_snoc, List.length_append, HM.out]; have := HJL.out.len; omega
        · have hok' : okNums x.wd [x.n] = false := by simpa using hok
          have HOKN := Lib.hid hok'; clear hok hok'
          by_cases hla : j < la.length
          · go_wp2_with fail
            refine (len_some J0.out.z).mono ?_
            rintro e w' ⟨rfl, rfl⟩
            rw [HL.out]
            go_wp2_with fail
            refine (num_one w.heap.size pz (wr.heap.size + 1) 1 vz bz x.wd x.n _ (J0.out.alloc _).z (by simp; omega) (by simp [go_sem]) HX.out.n (by have := HL.out; omega) (J0.out.z.not_new (by simp))).mono ?_
            rintro e wA ⟨rfl, hwA⟩
            rw [HOKN.out]
            rw [numd_no _ HOKN.out] at hwA
            obtain ⟨vz', ja⟩ := (J0.out.alloc _).writeZ hwA
            have xa := At.wrote (X0.out.alloc _) (J0.out.alloc _).z hwA
            have k0 := At.cell xa 0; have k1 := At.cell xa 1; have k2 := At.cell xa 2; have k3 := At.cell xa 3; have k4 := At.cell xa 4
            have zA : w.heap.size ≤ wA.heap.size := ja.below.size
            have JA := Lib.hid ja; have XA := Lib.hid xa; clear ja xa hwA
            go_wp2_with fail
            refine (num_one w.heap.size px wA.heap.size 1 vx bx x.wd x.n _ (JA.out.alloc _).x (by simp; omega) (by simp [go_sem]) HX.out.n (by have := HLX.out; omega) (JA.out.x.not_new (Nat.le_refl _))).mono ?_
            rintro e wB ⟨rfl, hwB⟩
            rw [HOKN.out]
            rw [numd_no _ HOKN.out] at hwB
            obtain ⟨vo', jb⟩ := (JA.out.alloc _).writeX hwB
            have xb := At.wrote (XA.out.alloc _) (JA.out.alloc _).x hwB
            clear k0 k1 k2 k3 k4
            have k0 := At.cell xb 0; have k1 := At.cell xb 1; have k2 := At.cell xb 2; have k3 := At.cell xb 3; have k4 := At.cell xb 4
            have zB : w.heap.size ≤ wB.heap.size := jb.below.size
            have JB := Lib.hid jb; have XB := Lib.hid xb; clear jb xb hwB JA XA
            go_wp2_with (first | (go_at_call 14; refine (len_some JB.out.z).mono ?_; rintro e w' ⟨rfl, rfl⟩; rw [HL.out]))
            go_roundg (la.length + bs.length - (j + 1))
            case measure => have := HG.out; omega
            case rel => exact ⟨j + 1, gs, cs, gd, cd, D, by omega, rfl, rfl, rfl, by go_num, ⟨⟨vo', vy, vz', bx, by_, by rw [HBZ.out]; exact JB.out, fun h9 => HE.out (by omega), HF.out⟩, HJL.out.dok, by have := HJL.out.dl; omega, by have := HJL.out.len; omega⟩⟩
          · go_wp2_with fail
            refine (len_some J0.out.z).mono ?_
            rintro e w' ⟨rfl, rfl⟩
            rw [HL.out]
            go_wp2_with fail
            refine (num_one w.heap.size pz (wr.heap.size + 1) 1 vz bz x.wd x.n _ (J0.out.alloc _).z (by simp; omega) (by simp [go_sem]) HX.out.n (by have := HL.out; omega) (J0.out.z.not_new (by simp))).mono ?_
            rintro e wA ⟨rfl, hwA⟩
            rw [HOKN.out]
            rw [numd_no _ HOKN.out] at hwA
            obtain ⟨vz', ja⟩ := (J0.out.alloc _).writeZ hwA
            have xa := At.wrote (X0.out.alloc _) (J0.out.alloc _).z hwA
            have k0 := At.cell xa 0; have k1 := At.cell xa 1; have k2 := At.cell xa 2; have k3 := At.cell xa 3; have k4 := At.cell xa 4
            have zA : w.heap.size ≤ wA.heap.size := ja.below.size
            have JA := Lib.hid ja; have XA := Lib.hid xa; clear ja xa hwA
            go_wp2_with fail
            refine (num_one w.heap.size py wA.heap.size 1 vy by_ x.wd x.n _ (JA.out.alloc _).y (by simp; omega) (by simp [go_sem]) HX.out.n (by have := HLY.out; omega) (JA.out.y.not_new (Nat.le_refl _))).mono ?_
            rintro e wB ⟨rfl, hwB⟩
            rw [HOKN.out]
            rw [numd_no _ HOKN.out] at hwB
            obtain ⟨vo', jb⟩ := (JA.out.alloc _).writeY hwB
            have xb := At.wrote (XA.out.alloc _) (JA.out.alloc _).y hwB
            clear k0 k1 k2 k3 k4
            have k0 := At.cell xb 0; have k1 := At.cell xb 1; have k2 := At.cell xb 2; have k3 := At.cell xb 3; have k4 := At.cell xb 4
            have zB : w.heap.size ≤ wB.heap.size := jb.below.size
            have JB := Lib.hid jb; have XB := Lib.hid xb; clear jb xb hwB JA XA
            go_wp2_with (first | (go_at_call 14; refine (len_some JB.out.z).mono ?_; rintro e w' ⟨rfl, rfl⟩; rw [HL.out]))
            go_roundg (la.length + bs.length - (j + 1))
            case measure => have := HG.out; omega
            case rel => exact ⟨j + 1, gs, cs, gd, cd, D, by omega, rfl, rfl, rfl, by go_num, ⟨⟨vx, vo', vz', bx, by_, by rw [HBZ.out]; exact JB.out, fun h9 => HE.out (by omega), HF.out⟩, HJL.out.dok, by have := HJL.out.dl; omega, by have := HJL.out.len; omega⟩⟩
      · have hk1' : (x.kind == 1) = false := by simpa using hk1
        have HK1 := Lib.hid hk1; clear hk1
        have hd : decide (x.s.size ≤ 65535) = true := by simp; omega
        have HD := Lib.hid hd; clear hd
        by_cases hla : j < la.length
        · go_wp2_with fail
          refine (len_some J0.out.z).mono ?_
          rintro e w' ⟨rfl, rfl⟩
          rw [HL.out]
          go_wp2_with fail
          refine (text_some w.heap.size pz vz bz x.s _ J0.out.z (by first | exact J0.out.below.size | (simp; omega)) HX.out.s (by have := HL.out; omega)).mono ?_
          rintro e wA ⟨rfl, hwA⟩
          rw [HD.out]
          rw [textd_yes _ (by omega), List.append_assoc, ← bytesA_2 HK1.out] at hwA
          obtain ⟨vz', ja⟩ := J0.out.writeZ hwA
          have xa := At.wrote X0.out J0.out.z hwA
          have k0 := At.cell xa 0; have k1 := At.cell xa 1; have k2 := At.cell xa 2; have k3 := At.cell xa 3; have k4 := At.cell xa 4
          have zA : w.heap.size ≤ wA.heap.size := ja.below.size
          have JA := Lib.hid ja; have XA := Lib.hid xa; clear ja xa hwA
          go_wp2_with fail
          refine (text_some w.heap.size px vx bx x.s _ JA.out.x (by first | exact JA.out.below.size | (simp; omega)) HX.out.s (by have := HLX.out; omega)).mono ?_
          rintro e wB ⟨rfl, hwB⟩
          rw [HD.out]
          rw [textd_yes _ (by omega), List.append_assoc, ← bytesA_2 HK1.out] at hwB
          obtain ⟨vo', jb⟩ := JA.out.writeX hwB
          have xb := At.wrote XA.out JA.out.x hwB
          clear k0 k1 k2 k3 k4
          have k0 := At.cell xb 0; have k1 := At.cell xb 1; have k2 := At.cell xb 2; have k3 := At.cell xb 3; have k4 := At.cell xb 4
          have zB : w.heap.size ≤ wB.heap.size := jb.below.size
          have JB := Lib.hid jb; have XB := Lib.hid xb; clear jb xb hwB JA XA
          have hLm : (bz ++ bytesA x).length = L + m := by rw [List.length_append, HL.out, HM.out]
          have hmb : m ≤ 1100 := by rw [← HM.out, bytesA_2 HK1.out, List.length_append, num_length, ← Lib.size_eq]; have : (2 : Int).toNat = 2 := rfl; omega
          have HLM := Lib.hid hLm; clear hLm
          have hD60 : D.length ≤ 60 := by have := HJL.out.dl; omega
          obtain ⟨i3, hi3, hz30, hz31, hz32⟩ := info_parts info3
          have I3 := Lib.hid hi3; have Z30 := Lib.hid hz30; have Z31 := Lib.hid hz31; have Z32 := Lib.hid hz32; clear hi3 hz30 hz31 hz32
          go_wp2_with (first
            | (go_at_call 14; refine (len_some JB.out.z).mono ?_; rintro e w' ⟨rfl, rfl⟩; rw [HLM.out])
            | (at_builtin; (refine wpList_append_lies _ rfl (.tmp 107) (.tmp 112) 46 rfl w.heap.size 3 i3 _ 1 8 Try.underlying46 I3.out Z30.out Z31.out Z32.out rfl (by omega) (.slice (some ⟨gs, 0, none⟩) D.length cs) D.length _ rfl (ints_row (JB.out.alloc _).s (by simp)) ⟨wB.heap.size, 0, none⟩ 1 1 [.int .i64 ((L : Int) + (m : Int) - (L : Int))] rfl rfl (World.news_of_block (heap_alloc_new wB _)) (by simp [Value.oneCell']) (by omega) (by unfold maxLen; omega) (by omega) (by simp; omega) (wB.heap.size + 1) (by simp) ?_); intro g8 cap8 w8 hown8 hgrow8 hat8 hlt8; have x8 := At.grown (XB.out.alloc _) (JB.out.alloc _).s rfl (by decide) hgrow8; have h8 : OwnInts w8 w.heap.size g8 cap8 ((D ++ [x]).map fun a => ((bytesA a).length : Int)) := (by rw [lens_snoc]; refine ints_push (n := D.length) (by simp) ?_; rw [HM.out]; have e9 : (L : Int) + (m : Int) - (L : Int) = (m : Int) := (by omega); rw [e9] at hown8; exact hown8); have j8 := (JB.out.alloc _).pushS hgrow8 h8; clear k0 k1 k2 k3 k4; have k0 := At.cell x8 0; have k1 := At.cell x8 1; have k2 := At.cell x8 2; have k3 := At.cell x8 3; have k4 := At.cell x8 4; have z8 : w.heap.size ≤ w8.heap.size := j8.below.size; have J8 := Lib.hid j8; clear j8 x8 h8 hown8 hgrow8 hat8)
            | (at_builtin; (refine wpList_append_acts _ rfl (.tmp 114) (.tmp 116) rfl w.heap.size gd cd D.length D (J8.out.alloc _).d rfl rfl (some ⟨w8.heap.size, 0, none⟩) 1 1 [x] (src_new w8 x) rfl rfl (by simp; omega) (by simp; omega) (D.length + 1) rfl (w8.heap.size + 1) (by simp) ?_); intro g9 cap9 w9 hown9 hgrow9 hat9; have j9 := (J8.out.alloc _).pushD hgrow9 hown9 (hat9.imp id (fun h => (by simp; omega))); have J9 := Lib.hid j9; clear j9 hown9 hgrow9 hat9))
          go_roundg (la.length + bs.length - (j + 1))
          case measure => have := HG.out; omega
          case rel =>
            have ez : (bx ++ bytesA x) ++ by_ = bz ++ bytesA x := by rw [← HBZ.out, HE.out (by omega)]; simp
            refine ⟨j + 1, g8, cap8, g9, cap9, D ++ [x], by omega, rfl, by simp, by simp, by go_num, ⟨⟨vo', vy, vz', bx ++ bytesA x, by_, by rw [ez]; exact J9.out, fun _ => HE.out (by omega), by rw [ez, flat_snoc, ← HF.out, HBZ.out]⟩, ?_, by have := HJL.out.dl; simp; omega, ?_⟩⟩
            · intro a ha
              rcases List.mem_append.1 ha with ha | ha
              · exact HJL.out.dok a ha
              · simp at ha; subst ha; exact ⟨HX.out, by omega, okA_2 HK1.out⟩
            · rw [flat_snoc, List.length_append, HM.out]; have := HJL.out.len; omega
        · go_wp2_with fail
          refine (len_some J0.out.z).mono ?_
          rintro e w' ⟨rfl, rfl⟩
          rw [HL.out]
          go_wp2_with fail
          refine (text_some w.heap.size pz vz bz x.s _ J0.out.z (by first | exact J0.out.below.size | (simp; omega)) HX.out.s (by have := HL.out; omega)).mono ?_
          rintro e wA ⟨rfl, hwA⟩
          rw [HD.out]
          rw [textd_yes _ (by omega), List.append_assoc, ← bytesA_2 HK1.out] at hwA
          obtain ⟨vz', ja⟩ := J0.out.writeZ hwA
          have xa := At.wrote X0.out J0.out.z hwA
          have k0 := At.cell xa 0; have k1 := At.cell xa 1; have k2 := At.cell xa 2; have k3 := At.cell xa 3; have k4 := At.cell xa 4
          have zA : w.heap.size ≤ wA.heap.size := ja.below.size
          have JA := Lib.hid ja; have XA := Lib.hid xa; clear ja xa hwA
          go_wp2_with fail
          refine (text_some w.heap.size py vy by_ x.s _ JA.out.y (by first | exact JA.out.below.size | (simp; omega)) HX.out.s (by have := HLY.out; omega)).mono ?_
          rintro e wB ⟨rfl, hwB⟩
          rw [HD.out]
          rw [textd_yes _ (by omega), List.append_assoc, ← bytesA_2 HK1.out] at hwB
          obtain ⟨vo', jb⟩ := JA.out.writeY hwB
          have xb := At.wrote XA.out JA.out.y hwB
          clear k0 k1 k2 k3 k4
          have k0 := At.cell xb 0; have k1 := At.cell xb 1; have k2 := At.cell xb 2; have k3 := At.cell xb 3; have k4 := At.cell xb 4
          have zB : w.heap.size ≤ wB.heap.size := jb.below.size
          have JB := Lib.hid jb; have XB := Lib.hid xb; clear jb xb hwB JA XA
          have hLm : (bz ++ bytesA x).length = L + m := by rw [List.length_append, HL.out, HM.out]
          have hmb : m ≤ 1100 := by rw [← HM.out, bytesA_2 HK1.out, List.length_append, num_length, ← Lib.size_eq]; have : (2 : Int).toNat = 2 := rfl; omega
          have HLM := Lib.hid hLm; clear hLm
          have hD60 : D.length ≤ 60 := by have := HJL.out.dl; omega
          obtain ⟨i3, hi3, hz30, hz31, hz32⟩ := info_parts info3
          have I3 := Lib.hid hi3; have Z30 := Lib.hid hz30; have Z31 := Lib.hid hz31; have Z32 := Lib.hid hz32; clear hi3 hz30 hz31 hz32
          go_wp2_with (first
            | (go_at_call 14; refine (len_some JB.out.z).mono ?_; rintro e w' ⟨rfl, rfl⟩; rw [HLM.out])
            | (at_builtin; (refine wpList_append_lies _ rfl (.tmp 107) (.tmp 112) 46 rfl w.heap.size 3 i3 _ 1 8 Try.underlying46 I3.out Z30.out Z31.out Z32.out rfl (by omega) (.slice (some ⟨gs, 0, none⟩) D.length cs) D.length _ rfl (ints_row (JB.out.alloc _).s (by simp)) ⟨wB.heap.size, 0, none⟩ 1 1 [.int .i64 ((L : Int) + (m : Int) - (L : Int))] rfl rfl (World.news_of_block (heap_alloc_new wB _)) (by simp [Value.oneCell']) (by omega) (by unfold maxLen; omega) (by omega) (by simp; omega) (wB.heap.size + 1) (by simp) ?_); intro g8 cap8 w8 hown8 hgrow8 hat8 hlt8; have x8 := At.grown (XB.out.alloc _) (JB.out.alloc _).s rfl (by decide) hgrow8; have h8 : OwnInts w8 w.heap.size g8 cap8 ((D ++ [x]).map fun a => ((bytesA a).length : Int)) := (by rw [lens_snoc]; refine ints_push (n := D.length) (by simp) ?_; rw [HM.out]; have e9 : (L : Int) + (m : Int) - (L : Int) = (m : Int) := (by omega); rw [e9] at hown8; exact hown8); have j8 := (JB.out.alloc _).pushS hgrow8 h8; clear k0 k1 k2 k3 k4; have k0 := At.cell x8 0; have k1 := At.cell x8 1; have k2 := At.cell x8 2; have k3 := At.cell x8 3; have k4 := At.cell x8 4; have z8 : w.heap.size ≤ w8.heap.size := j8.below.size; have J8 := Lib.hid j8; clear j8 x8 h8 hown8 hgrow8 hat8)
            | (at_builtin; (refine wpList_append_acts _ rfl (.tmp 114) (.tmp 116) rfl w.heap.size gd cd D.length D (J8.out.alloc _).d rfl rfl (some ⟨w8.heap.size, 0, none⟩) 1 1 [x] (src_new w8 x) rfl rfl (by simp; omega) (by simp; omega) (D.length + 1) rfl (w8.heap.size + 1) (by simp) ?_); intro g9 cap9 w9 hown9 hgrow9 hat9; have j9 := (J8.out.alloc _).pushD hgrow9 hown9 (hat9.imp id (fun h => (by simp; omega))); have J9 := Lib.hid j9; clear j9 hown9 hgrow9 hat9))
          go_roundg (la.length + bs.length - (j + 1))
          case measure => have := HG.out; omega
          case rel =>
            have ez : bx ++ (by_ ++ bytesA x) = bz ++ bytesA x := by rw [← HBZ.out, List.append_assoc]
            refine ⟨j + 1, g8, cap8, g9, cap9, D ++ [x], by omega, rfl, by simp, by simp, by go_num, ⟨⟨vx, vo', vz', bx, by_ ++ bytesA x, by rw [ez]; exact J9.out, fun h9 => absurd h9 (by omega), by rw [ez, flat_snoc, ← HF.out, HBZ.out]⟩, ?_, by have := HJL.out.dl; simp; omega, ?_⟩⟩
            · intro a ha
              rcases List.mem_append.1 ha with ha | ha
              · exact HJL.out.dok a ha
              · simp at ha; subst ha; exact ⟨HX.out, by omega, okA_2 HK1.out⟩
            · rw [flat_snoc, List.length_append, HM.out]; have := HJL.out.len; omega
    · have hge : (la.length : Int) + (bs.length : Int) ≤ (j : Int) := by omega
      have hlen : (bx ++ by_).length ≤ 200000 := by rw [HF.out]; have := HJL.out.len; omega
      have hlx : (textOf bx).size ≤ 200000 := by rw [textOf_size]; rw [List.length_append] at hlen; omega
      have hly : (textOf by_).size ≤ 200000 := by rw [textOf_size]; rw [List.length_append] at hlen; omega
      obtain ⟨T, hT⟩ : ∃ T, textOf (bx ++ by_) = T := ⟨_, rfl⟩
      have hE : textOf bx ++ textOf by_ = T := by rw [text_add2, hT]
      have HT := Lib.hid hT; clear hT
      have hTs : T.size ≤ 200000 := by rw [← HT.out, textOf_size]; exact hlen
      have HLEN := Lib.hid hlen; clear hlen
      have hzw : w.heap.size ≤ wr.heap.size := HJ.out.below.size
      go_wp2_with fail
      refine (string_some HJ.out.x).mono ?_
      rintro e w' ⟨rfl, rfl⟩
      go_wp2_with fail
      refine (string_some HJ.out.y).mono ?_
      rintro e w' ⟨rfl, rfl⟩
      go_wp2_with fail
      refine (string_some HJ.out.z).mono ?_
      rintro e w' ⟨rfl, rfl⟩
      rw [HT.out]
      go_wp2_with fail
      refine (string_some HJ.out.z).mono ?_
      rintro e w' ⟨rfl, rfl⟩
      rw [HT.out]
      go_wp2_with fail
      refine (of_any T _).mono ?_
      rintro e w2 ⟨rfl, h2⟩
      have jr : JR w w2 wr.heap.size gs cs gd cd D 0 := by
        rw [← h2]
        refine ⟨?_, HJ.out.d.alloc _, HJ.out.s.alloc _, HJ.out.below.alloc hzw _⟩
        have e : textOf ((D.drop 0).flatMap bytesA) = T := by rw [List.drop_zero, ← HF.out, HT.out]
        rw [e]; exact At.new _ _ _
      have JR0 := Lib.hid jr; clear jr h2
      have hD60 : D.length ≤ 60 := by have := HJL.out.dl; omega
      clear HOK HLB hE
      go_wp2_with fail
      generalize wr.heap.size = p2 at JR0 hzw ⊢
      go_loopg [18] D.length (fun g s18 wx => ∃ k : Nat, k ≤ D.length ∧ g = D.length - k ∧ s18 = .int .i64 (k : Int) ∧ JR w wx p2 gs cs gd cd D k)
      case atStart => exact ⟨0, Nat.zero_le _, rfl, rfl, JR0.out⟩
      case round =>
        obtain ⟨k, hk, hg2, rfl, hjr⟩ := hrel
        have HG2 := Lib.hid hg2; have HR := Lib.hid hjr; clear hg2 hjr JR0
        by_cases hlt2 : k < D.length
        · have hact := HR.out.d.act k hlt2
          have hcell := HR.out.s.cell k (by simpa using hlt2)
          have hxk := HJL.out.dok (D.getD k noAct) (by simp [hlt2])
          have hdf := drop_flat D k hlt2
          have hcv : (D.map fun a => ((bytesA a).length : Int)).getD k 0 = ((bytesA (D.getD k noAct)).length : Int) := by simp [hlt2]
          rw [hcv] at hcell
          generalize D.getD k noAct = x at hact hxk hdf hcell hcv
          have c0 := hact.c0; have c1 := hact.c1; have c2 := hact.c2; have c3 := hact.c3; have c4 := hact.c4
          obtain ⟨hxok, hx1024, hxA⟩ := hxk
          have HX := Lib.hid hxok; have HXA := Lib.hid hxA; have HDF := Lib.hid hdf; clear hact hxok hxA hdf
          obtain ⟨R, hR⟩ : ∃ R, (D.drop (k + 1)).flatMap bytesA = R := ⟨_, rfl⟩
          have HRR := Lib.hid hR; clear hR
          obtain ⟨m, hm⟩ : ∃ m, (bytesA x).length = m := ⟨_, rfl⟩
          rw [hm] at hcell hcv
          have HCV := Lib.hid hcv; clear hcv
          have HM := Lib.hid hm; clear hm
          obtain ⟨r, hr⟩ : ∃ r, R.length = r := ⟨_, rfl⟩
          have HRL := Lib.hid hr; clear hr
          have inn2 : InAt wr p2 (textOf (bytesA x ++ R)) false := by have := HR.out.inn; rw [HDF.out, HRR.out] at this; exact this
          have IN2 := Lib.hid inn2; clear inn2
          have hts : (textOf (bytesA x ++ R)).size = r + m := by rw [textOf_size, List.length_append, HM.out, HRL.out]; omega
          have hrm : r + m ≤ 200000 := by
            rw [← hts, textOf_size, ← HRR.out, ← HDF.out]
            have h1 : (D.flatMap bytesA).length = ((D.take k).flatMap bytesA).length + ((D.drop k).flatMap bytesA).length := by
              rw [← List.length_append, ← List.flatMap_append, List.take_append_drop]
            have h2 := HLEN.out
            rw [HF.out] at h2
            omega
          have HTS := Lib.hid hts; clear hts
          have ew : IntKind.i64.wrap ((r : Int) + (m : Int) - (r : Int)) = (m : Int) := by rw [show (r : Int) + (m : Int) - (r : Int) = (m : Int) by omega]; exact IntWalk.i64_in _ (by omega)
          have EW := Lib.hid ew; clear ew
          by_cases hk1 : x.kind = 1
          · have hk1' : (x.kind == 1) = true := by simpa using hk1
            have hrd := rd_num (wd := x.wd) (n := x.n) R (by rw [← okA_1 hk1]; exact HXA.out) HX.out.n.2
            rw [← bytesA_1 hk1] at hrd
            have HRD := Lib.hid hrd; clear hk1 hrd
            go_wp2_with fail
            refine (left_some IN2.out).mono ?_
            rintro e w' ⟨rfl, rfl⟩
            rw [HTS.out]
            go_wp2_with fail
            refine (inum_any x.wd IN2.out (by rw [HTS.out]; unfold maxLen; omega)).mono ?_
            rintro e w3 ⟨rfl, ht⟩
            rw [HRD.out.2.2, inB_ok HRD.out.1] at ht
            have jr3 := HR.out.step ht (by rw [HRR.out]) hzw
            have in3 : InAt w3 p2 (textOf R) false := ht.1
            have hrs : (textOf R).size = r := by rw [textOf_size, HRL.out]
            have hcell3 := jr3.s.cell k (by simpa using hlt2)
            rw [HCV.out] at hcell3
            have JR3 := Lib.hid jr3; have IN3 := Lib.hid in3; have HRS := Lib.hid hrs; clear jr3 in3 ht hrs hcell c0 c1 c2 c3 c4
            have ew := EW.out
            go_wp2_with fail
            go_quiet ((first | (go_at_call 21; exact quietL (left_val (IN3.out.drewN _) HRS.out)) | (go_at_call 20; exact quietL (bad_some (IN3.out.drewN _)))))
            clear ew
            go_wp2_with fail
            go_roundg (D.length - (k + 1))
            case measure => have := HG2.out; omega
            case rel => exact ⟨k + 1, by omega, rfl, by go_num, ⟨JR3.out.inn, JR3.out.d, JR3.out.s, ⟨JR3.out.below.os, JR3.out.below.tape, JR3.out.below.output, JR3.out.below.size, JR3.out.below.block⟩⟩⟩
          · have hk1' : (x.kind == 1) = false := by simpa using hk1
            have hrd := rd_text (most := 1024) x.s R (by omega) (by omega)
            rw [← bytesA_2 hk1] at hrd
            have HRD := Lib.hid hrd; clear hk1 hrd
            go_wp2_with fail
            refine (left_some IN2.out).mono ?_
            rintro e w' ⟨rfl, rfl⟩
            rw [HTS.out]
            go_wp2_with fail
            refine (itext_any 1024 IN2.out (by rw [HTS.out]; omega)).mono ?_
            rintro e w3 ⟨rfl, ht⟩
            rw [HRD.out.2.2, tB_ok HRD.out.1] at ht
            have jr3 := HR.out.step ht (by rw [HRR.out]) hzw
            have in3 : InAt w3 p2 (textOf R) false := ht.1
            have hrs : (textOf R).size = r := by rw [textOf_size, HRL.out]
            have hcell3 := jr3.s.cell k (by simpa using hlt2)
            rw [HCV.out] at hcell3
            have JR3 := Lib.hid jr3; have IN3 := Lib.hid in3; have HRS := Lib.hid hrs; clear jr3 in3 ht hrs hcell c0 c1 c2 c3 c4
            have ew := EW.out
            go_wp2_with fail
            go_quiet ((first | (go_at_call 21; exact quietL (left_val (IN3.out.drewN _) HRS.out)) | (go_at_call 20; exact quietL (bad_some (IN3.out.drewN _)))))
            clear ew
            go_wp2_with fail
            go_roundg (D.length - (k + 1))
            case measure => have := HG2.out; omega
            case rel => exact ⟨k + 1, by omega, rfl, by go_num, ⟨JR3.out.inn, JR3.out.d, JR3.out.s, ⟨JR3.out.below.os, JR3.out.below.tape, JR3.out.below.output, JR3.out.below.size, JR3.out.below.block⟩⟩⟩
        · obtain rfl : k = D.length := by omega
          have hin : InAt wr p2 ⟨#[]⟩ false := by have := HR.out.inn; rw [List.drop_length] at this; exact this
          have IN := Lib.hid hin; clear hin
          go_wp2_with fail
          refine (end_some IN.out).mono ?_
          rintro e w' ⟨rfl, rfl⟩
          go_wp2_with fail
          go_ret
          exact ⟨ret_bool (by decide), HR.out.below⟩
end Go.Proofs.Ytoijipahcpdhcaa
