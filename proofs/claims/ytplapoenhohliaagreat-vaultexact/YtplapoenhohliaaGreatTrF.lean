import Derived.Test.YtplapoenhohliaaGreatTrD
namespace Go.Proofs.YtplapoenhohliaaGreat.Sh
open Go.RowKit Go.Lib Plain
set_option linter.unusedVariables false
section
variable {w W : World} {B : Nat} {v vl vr : Value} {t tl tr : T}
theorem put_le {k : Int} {v : K} {l : List KV} (h : Rise l) : (put k v l).length ≤ l.length + 1 := by
 rw [put_length h]; split <;> omega
theorem del_le {k : Int} {l : List KV} : (del k l).length ≤ l.length := List.length_filter_le ..
theorem LPost.at {l : List KV} (hb : Below w.heap.size w W) {e : Ending} {W' : World} (h : LPost W l e W') : ∃ g t, e = .returned (ptr g) ∧ TAt W' W'.heap.size (ptr g) t ∧ t.kvs = l ∧ Below w.heap.size w W' := by
 obtain ⟨g, t, rfl, h1, h2, h3⟩ := h
 exact ⟨g, t, rfl, h1, h2, hb.trans (h3.mono hb.size)⟩
set_option maxRecDepth 100000 in
set_option maxHeartbeats 1600000 in
theorem with_nil {p : Nat} {x : KV} (hp : PAt w p x) : Calls Tryz.prog 100 #[.pointer none, ptr p] w (LPost w [x]) := by
 have CJ := Lib.hid (joined_at (Below.refl _ _) (tl := .nil) (tr := .nil) rfl hp rfl (by simp [T.high]) (by simp [T.high]))
 clear hp
 go_enter Tryz.func100, Tryz.ntmps100
 go_wp2_with (first | (go_at_call 107; (with_reducible refine CJ.out.mono ?_); rintro e w' ⟨g, rfl, T1, b1, _⟩))
 go_ret
 exact ⟨g, _, rfl, T1, rfl, b1⟩
set_option maxRecDepth 100000 in
set_option maxHeartbeats 1600000 in
theorem with_lt {p q g : Nat} {x y : KV} {h : Nat} {L1 L : List KV} (hno : NAt w g q vl vr h) (hy : PAt w q y) (hx : PAt w p x) (hs : lt x.1 y.1 = true)
  (cw : ∀ W, Below w.heap.size w W → Calls Tryz.prog 100 #[vl, ptr p] W (LPost W L1))
  (cv : ∀ W v1 t1, Below w.heap.size w W → TAt W W.heap.size v1 t1 → t1.kvs = L1 → Calls Tryz.prog 108 #[v1, ptr q, vr] W (LPost W L)) :
  Calls Tryz.prog 100 #[ptr g, ptr p] w (LPost w L) := by
 have c0 := hno.c0; have c1 := hno.c1; have c2 := hno.c2; have k0 := hy.c0; have k1 := hx.c0
 have HS := Lib.hid (fun W (hb : Below w.heap.size w W) => And.intro (hno.keep hb (At.lt hno)).c0 (And.intro (hno.keep hb (At.lt hno)).c1 (hno.keep hb (At.lt hno)).c2))
 have he := side_lt hs
 have CC := Lib.hid (fun n => compare_any x.1 y.1 (w.drewN n))
 have CW := Lib.hid cw; have CV := Lib.hid cv
 have B0 : Below w.heap.size w w := Below.refl _ _
 have HB0 := Lib.hid B0
 rw [he] at CC
 clear hno hy hx cw cv hs
 go_enter Tryz.func100, Tryz.ntmps100
 go_wp2_with fail
 go_quiet ((go_at_call 103; (with_reducible exact quietR (CC.out _))))
 go_wp2_with fail
 have B1 : Below w.heap.size w (w.drewN nq) := below_drewN HB0.out _
 go_region_held3 (fun w' => (w'.cell? ⟨g, 0, none⟩ = some (ptr q) ∧ w'.cell? ⟨g, 1, none⟩ = some vl ∧ w'.cell? ⟨g, 2, none⟩ = some vr))
  (first | exact HS.out _ (by assumption) | exact HS.out _ (below_drewN (by assumption) 1) | fail)
  (first
   | (go_at_call 100; (with_reducible refine (CW.out _ (by first | assumption | exact below_drewN HB0.out _)).mono ?_); rintro e w1 hp1; obtain ⟨g1, t1, rfl, T1, k1, b1⟩ := hp1.at (below_drewN HB0.out (nq + 1)))
   | (go_at_call 108; (with_reducible refine (CV.out _ _ _ b1 T1 k1).mono ?_); rintro e w2 hp2; obtain ⟨g2, t2, rfl, T2, k2, b2⟩ := hp2.at b1)
   | fail)
 all_goals go_wp2_with fail
 go_ret
 exact ⟨g2, t2, rfl, T2, k2, b2⟩
set_option maxRecDepth 100000 in
set_option maxHeartbeats 1600000 in
theorem with_gt {p q g : Nat} {x y : KV} {h : Nat} {L1 L : List KV} (hno : NAt w g q vl vr h) (hy : PAt w q y) (hx : PAt w p x) (hs : lt y.1 x.1 = true)
  (cw : ∀ W, Below w.heap.size w W → Calls Tryz.prog 100 #[vr, ptr p] W (LPost W L1))
  (cv : ∀ W v1 t1, Below w.heap.size w W → TAt W W.heap.size v1 t1 → t1.kvs = L1 → Calls Tryz.prog 108 #[vl, ptr q, v1] W (LPost W L)) :
  Calls Tryz.prog 100 #[ptr g, ptr p] w (LPost w L) := by
 have c0 := hno.c0; have c1 := hno.c1; have c2 := hno.c2; have k0 := hy.c0; have k1 := hx.c0
 have HS := Lib.hid (fun W (hb : Below w.heap.size w W) => And.intro (hno.keep hb (At.lt hno)).c0 (And.intro (hno.keep hb (At.lt hno)).c1 (hno.keep hb (At.lt hno)).c2))
 have he := side_gt hs
 have CC := Lib.hid (fun n => compare_any x.1 y.1 (w.drewN n))
 have CW := Lib.hid cw; have CV := Lib.hid cv
 have B0 : Below w.heap.size w w := Below.refl _ _
 have HB0 := Lib.hid B0
 rw [he] at CC
 clear hno hy hx cw cv hs
 go_enter Tryz.func100, Tryz.ntmps100
 go_wp2_with fail
 go_quiet ((go_at_call 103; (with_reducible exact quietR (CC.out _))))
 go_wp2_with fail
 have B1 : Below w.heap.size w (w.drewN nq) := below_drewN HB0.out _
 go_region_held3 (fun w' => (w'.cell? ⟨g, 0, none⟩ = some (ptr q) ∧ w'.cell? ⟨g, 1, none⟩ = some vl ∧ w'.cell? ⟨g, 2, none⟩ = some vr))
  (first | exact HS.out _ (by assumption) | exact HS.out _ (below_drewN (by assumption) 1) | fail)
  (first
   | (go_at_call 100; (with_reducible refine (CW.out _ (by first | assumption | exact below_drewN HB0.out _)).mono ?_); rintro e w1 hp1; obtain ⟨g1, t1, rfl, T1, k1, b1⟩ := hp1.at (below_drewN HB0.out (nq + 1)))
   | (go_at_call 108; (with_reducible refine (CV.out _ _ _ b1 T1 k1).mono ?_); rintro e w2 hp2; obtain ⟨g2, t2, rfl, T2, k2, b2⟩ := hp2.at b1)
   | fail)
 all_goals go_wp2_with fail
 go_ret
 exact ⟨g2, t2, rfl, T2, k2, b2⟩
set_option maxRecDepth 100000 in
set_option maxHeartbeats 1600000 in
theorem with_eq {p q g : Nat} {x y : KV} {h : Nat} {L : List KV} {ol or : Option Addr} (hno : NAt w g q (.pointer ol) (.pointer or) h) (hy : PAt w q y) (hx : PAt w p x) (hs : x.1 = y.1)
  (cj : ∀ n, Calls Tryz.prog 107 #[.pointer ol, ptr w.heap.size, .pointer or] ((w.drewN n).alloc (.cells (pc (y.1, x.2)) 119)) (LPost w L)) :
  Calls Tryz.prog 100 #[ptr g, ptr p] w (LPost w L) := by
 have c0 := hno.c0; have c1 := hno.c1; have c2 := hno.c2; have k0 := hy.c0; have k1 := hx.c0
 obtain ⟨q1, q2, q3, q4, q5, q6, q7, q8⟩ := hx.all
 have hb : g < w.heap.size := At.lt hno
 have hb2 : q < w.heap.size := At.lt hy
 have hb3 : p < w.heap.size := At.lt hx
 have he : side x.1 y.1 = 0 := by rw [hs]; exact side_eq _
 have CC := Lib.hid (fun n => compare_any x.1 y.1 (w.drewN n))
 have cj2 : ∀ n, Calls Tryz.prog 107 #[.pointer ol, ptr w.heap.size, .pointer or] ((w.drewN n).alloc (.cells #[.int .i64 y.1, .int .i64 x.2.id, .int .i64 x.2.kind, .int .i64 x.2.frm, .int .i64 x.2.dto, .int .i64 x.2.car, .int .i64 x.2.st, .int .i64 x.2.own, .int .i64 x.2.born] 119)) (LPost w L) := cj
 have CJ := Lib.hid cj2
 have HS := Lib.hid (fun W (hb : Below w.heap.size w W) => And.intro (hno.keep hb (At.lt hno)).c0 (And.intro (hno.keep hb (At.lt hno)).c1 (And.intro (hno.keep hb (At.lt hno)).c2 (And.intro (hy.keep hb hy.lt).c0 ((hx.keep hb hx.lt).all)))))
 rw [he] at CC
 clear hno hy hx cj cj2 hs
 have n1 : ¬ g = w.heap.size := by omega
 have n2 : ¬ q = w.heap.size := by omega
 have n3 : ¬ p = w.heap.size := by omega
 go_enter Tryz.func100, Tryz.ntmps100
 go_wp2_with fail
 go_quiet ((go_at_call 103; (with_reducible exact quietR (CC.out _))))
 go_wp2_with fail
 go_region_held3 (fun w' => (w'.cell? ⟨g, 0, none⟩ = some (ptr q) ∧ w'.cell? ⟨g, 1, none⟩ = some (.pointer ol) ∧ w'.cell? ⟨g, 2, none⟩ = some (.pointer or) ∧ w'.cell? ⟨q, 0, none⟩ = some (.int .i64 y.1) ∧ w'.cell? ⟨p, 1, none⟩ = some (.int .i64 x.2.id) ∧ w'.cell? ⟨p, 2, none⟩ = some (.int .i64 x.2.kind) ∧ w'.cell? ⟨p, 3, none⟩ = some (.int .i64 x.2.frm) ∧ w'.cell? ⟨p, 4, none⟩ = some (.int .i64 x.2.dto) ∧ w'.cell? ⟨p, 5, none⟩ = some (.int .i64 x.2.car) ∧ w'.cell? ⟨p, 6, none⟩ = some (.int .i64 x.2.st) ∧ w'.cell? ⟨p, 7, none⟩ = some (.int .i64 x.2.own) ∧ w'.cell? ⟨p, 8, none⟩ = some (.int .i64 x.2.born)))
  (first | exact HS.out _ (by assumption) | go_keep | fail)
  (first
   | (go_at_call 107; (with_reducible refine (CJ.out _).mono ?_); rintro e w1 hp1; obtain ⟨g2, t2, rfl, T2, k2, b2⟩ := hp1)
   | fail)
 all_goals go_wp2_with fail
 go_ret
 exact ⟨g2, t2, rfl, T2, k2, b2⟩
theorem with_any {p : Nat} {x : KV} : ∀ {t : T} {w : World} {v : Value}, TAt w w.heap.size v t → PAt w p x → Rise t.kvs → t.kvs.length ≤ 70000 → Calls Tryz.prog 100 #[v, ptr p] w (LPost w (put x.1 x.2 t.kvs))
 | .nil, w, v, h, hp, _, _ => by
  have e : v = .pointer none := h
  subst e
  exact with_nil hp
 | .node l q y r, w, v, h, hp, hr, hn => by
  obtain ⟨g, vl, vr, rfl, hg, hq, hno, hy, hl, hrr⟩ := h
  rw [T.kvs_node] at hr hn ⊢
  rw [List.length_append, List.length_cons] at hn
  obtain ⟨r1, r2, r3, r4⟩ := hr.parts
  rcases side_cases x.1 y.1 with ⟨hs, _⟩ | ⟨hs, _⟩ | ⟨hs, _⟩
  ·rw [put_left hs]
   refine with_lt hno hy hp hs (fun W hb => with_any ((hl.keep hb (Nat.le_refl _)).mono hb.size) (hp.keep hb hp.lt) r1 (by omega)) (fun W v1 t1 hb h1 hk => ?_)
   have := put_le (k := x.1) (v := x.2) r1
   rw [← hk]
   exact levelled_any h1 (hy.keep hb hy.lt) ((hrr.keep hb (Nat.le_refl _)).mono hb.size) (by rw [hk]; omega) (by omega)
  ·rw [put_mid hs.symm r3]
   obtain ⟨ol, rfl⟩ := hl.ptr
   obtain ⟨or, rfl⟩ := hrr.ptr
   refine with_eq hno hy hp hs (fun n => ?_)
   have hb : Below w.heap.size w ((w.drewN n).alloc (.cells (pc (y.1, x.2)) 119)) := (below_drewN (Below.refl _ _) n).alloc (Nat.le_refl _) _
   have hnew : PAt ((w.drewN n).alloc (.cells (pc (y.1, x.2)) 119)) w.heap.size (y.1, x.2) := At.new (w.drewN n) 119 _
   have g1 := l.high_le
   have g2 := r.high_le
   refine (joined_at hb ((hl.keep hb (Nat.le_refl _)).mono hb.size) hnew ((hrr.keep hb (Nat.le_refl _)).mono hb.size) (by omega) (by omega)).mono ?_
   rintro e W' ⟨g', rfl, T1, b1, _⟩
   exact ⟨g', _, rfl, T1, by rw [T.kvs_node, hs], b1⟩
  ·rw [put_right hs r3]
   refine with_gt hno hy hp hs (fun W hb => with_any ((hrr.keep hb (Nat.le_refl _)).mono hb.size) (hp.keep hb hp.lt) r2 (by omega)) (fun W v1 t1 hb h1 hk => ?_)
   have := put_le (k := x.1) (v := x.2) r2
   rw [← hk]
   exact levelled_any ((hl.keep hb (Nat.le_refl _)).mono hb.size) (hy.keep hb hy.lt) h1 (by omega) (by rw [hk]; omega)
end
end Go.Proofs.YtplapoenhohliaaGreat.Sh
namespace Go.Proofs.YtplapoenhohliaaGreat.Sh
open Go.RowKit Go.Lib Plain
set_option linter.unusedVariables false
section
variable {w W : World} {B : Nat} {v vl vr : Value} {t tl tr : T}
def WPost (w : World) (l : List KV) (e : Ending) (w' : World) : Prop := ∃ v t, e = .returned v ∧ TAt w' w'.heap.size v t ∧ t.kvs = l ∧ Below w.heap.size w w'
theorem WPost.at {l : List KV} (hb : Below w.heap.size w W) {e : Ending} {W' : World} (h : WPost W l e W') : ∃ v t, e = .returned v ∧ TAt W' W'.heap.size v t ∧ t.kvs = l ∧ Below w.heap.size w W' := by
 obtain ⟨g, t, rfl, h1, h2, h3⟩ := h
 exact ⟨g, t, rfl, h1, h2, hb.trans (h3.mono hb.size)⟩
set_option maxRecDepth 100000 in
set_option maxHeartbeats 1600000 in
theorem wo_nil (k : Int) (w : World) : Calls Tryz.prog 101 #[.pointer none, .int .i64 k] w (WPost w []) := by
 go_enter Tryz.func101, Tryz.ntmps101
 go_wp2
 go_ret
 exact ⟨_, .nil, rfl, rfl, rfl, Below.refl _ _⟩
set_option maxRecDepth 100000 in
set_option maxHeartbeats 1600000 in
theorem wo_lt {k : Int} {q g : Nat} {y : KV} {h : Nat} {L1 L : List KV} (hno : NAt w g q vl vr h) (hy : PAt w q y) (hs : lt k y.1 = true)
  (cw : ∀ W, Below w.heap.size w W → Calls Tryz.prog 101 #[vl, .int .i64 k] W (WPost W L1))
  (cv : ∀ W v1 t1, Below w.heap.size w W → TAt W W.heap.size v1 t1 → t1.kvs = L1 → Calls Tryz.prog 108 #[v1, ptr q, vr] W (LPost W L)) :
  Calls Tryz.prog 101 #[ptr g, .int .i64 k] w (WPost w L) := by
 have c0 := hno.c0; have c1 := hno.c1; have c2 := hno.c2; have k0 := hy.c0
 have HS := Lib.hid (fun W (hb : Below w.heap.size w W) => And.intro (hno.keep hb (At.lt hno)).c0 (And.intro (hno.keep hb (At.lt hno)).c1 (hno.keep hb (At.lt hno)).c2))
 have he := side_lt hs
 have CC := Lib.hid (compare_any k y.1 w)
 have CW := Lib.hid cw; have CV := Lib.hid cv
 have B0 : Below w.heap.size w w := Below.refl _ _
 have HB0 := Lib.hid B0
 rw [he] at CC
 clear hno hy cw cv hs
 go_enter Tryz.func101, Tryz.ntmps101
 go_wp2_with ((go_at_call 103; (with_reducible refine CC.out.mono ?_); rintro e w' ⟨rfl, rfl⟩))
 go_region_held3 (fun w' => (w'.cell? ⟨g, 0, none⟩ = some (ptr q) ∧ w'.cell? ⟨g, 1, none⟩ = some vl ∧ w'.cell? ⟨g, 2, none⟩ = some vr))
  (first | exact HS.out _ (by assumption) | exact HS.out _ (below_drewN (by assumption) 1) | fail)
  (first
   | (go_at_call 101; (with_reducible refine (CW.out _ (by first | assumption | exact HB0.out.drew)).mono ?_); rintro e w1 hp1; obtain ⟨v1, t1, rfl, T1, k1, b1⟩ := hp1.at HB0.out.drew)
   | (go_at_call 108; (with_reducible refine (CV.out _ _ _ b1 T1 k1).mono ?_); rintro e w2 hp2; obtain ⟨g2, t2, rfl, T2, k2, b2⟩ := hp2.at b1)
   | fail)
 all_goals go_wp2_with fail
 go_ret
 exact ⟨_, t2, rfl, T2, k2, b2⟩
set_option maxRecDepth 100000 in
set_option maxHeartbeats 1600000 in
theorem wo_gt {k : Int} {q g : Nat} {y : KV} {h : Nat} {L1 L : List KV} (hno : NAt w g q vl vr h) (hy : PAt w q y) (hs : lt y.1 k = true)
  (cw : ∀ W, Below w.heap.size w W → Calls Tryz.prog 101 #[vr, .int .i64 k] W (WPost W L1))
  (cv : ∀ W v1 t1, Below w.heap.size w W → TAt W W.heap.size v1 t1 → t1.kvs = L1 → Calls Tryz.prog 108 #[vl, ptr q, v1] W (LPost W L)) :
  Calls Tryz.prog 101 #[ptr g, .int .i64 k] w (WPost w L) := by
 have c0 := hno.c0; have c1 := hno.c1; have c2 := hno.c2; have k0 := hy.c0
 have HS := Lib.hid (fun W (hb : Below w.heap.size w W) => And.intro (hno.keep hb (At.lt hno)).c0 (And.intro (hno.keep hb (At.lt hno)).c1 (hno.keep hb (At.lt hno)).c2))
 have he := side_gt hs
 have CC := Lib.hid (compare_any k y.1 w)
 have CW := Lib.hid cw; have CV := Lib.hid cv
 have B0 : Below w.heap.size w w := Below.refl _ _
 have HB0 := Lib.hid B0
 rw [he] at CC
 clear hno hy cw cv hs
 go_enter Tryz.func101, Tryz.ntmps101
 go_wp2_with ((go_at_call 103; (with_reducible refine CC.out.mono ?_); rintro e w' ⟨rfl, rfl⟩))
 go_region_held3 (fun w' => (w'.cell? ⟨g, 0, none⟩ = some (ptr q) ∧ w'.cell? ⟨g, 1, none⟩ = some vl ∧ w'.cell? ⟨g, 2, none⟩ = some vr))
  (first | exact HS.out _ (by assumption) | exact HS.out _ (below_drewN (by assumption) 1) | fail)
  (first
   | (go_at_call 101; (with_reducible refine (CW.out _ (by first | assumption | exact HB0.out.drew)).mono ?_); rintro e w1 hp1; obtain ⟨v1, t1, rfl, T1, k1, b1⟩ := hp1.at HB0.out.drew)
   | (go_at_call 108; (with_reducible refine (CV.out _ _ _ b1 T1 k1).mono ?_); rintro e w2 hp2; obtain ⟨g2, t2, rfl, T2, k2, b2⟩ := hp2.at b1)
   | fail)
 all_goals go_wp2_with fail
 go_ret
 exact ⟨_, t2, rfl, T2, k2, b2⟩
set_option maxRecDepth 100000 in
set_option maxHeartbeats 1600000 in
theorem wo_one {k : Int} {q g : Nat} {y : KV} {h : Nat} {L : List KV} (hno : NAt w g q vl (.pointer none) h) (hy : PAt w q y) (hs : k = y.1) (hl : TAt w w.heap.size vl tl) (hk : tl.kvs = L) :
  Calls Tryz.prog 101 #[ptr g, .int .i64 k] w (WPost w L) := by
 have c0 := hno.c0; have c1 := hno.c1; have c2 := hno.c2; have k0 := hy.c0
 have he : side k y.1 = 0 := by rw [hs]; exact side_eq _
 have CC := Lib.hid (compare_any k y.1 w)
 rw [he] at CC
 have HL := Lib.hid hl
 clear hno hy hs hl
 go_enter Tryz.func101, Tryz.ntmps101
 go_wp2_with ((go_at_call 103; (with_reducible refine CC.out.mono ?_); rintro e w' ⟨rfl, rfl⟩))
 go_ret
 exact ⟨_, tl, rfl, HL.out, hk, Below.refl _ _⟩
set_option maxRecDepth 100000 in
set_option maxHeartbeats 1600000 in
theorem wo_mid {k : Int} {q g gr p : Nat} {y x : KV} {h : Nat} {L1 L : List KV} (hno : NAt w g q vl (ptr gr) h) (hy : PAt w q y) (hs : k = y.1) (hx : PAt w p x)
  (cf : Calls Tryz.prog 109 #[ptr gr] w fun e w' => w = w' ∧ e = .returned (ptr p))
  (cw : ∀ W, Below w.heap.size w W → Calls Tryz.prog 101 #[ptr gr, .int .i64 x.1] W (WPost W L1))
  (cv : ∀ W v1 t1, Below w.heap.size w W → TAt W W.heap.size v1 t1 → t1.kvs = L1 → Calls Tryz.prog 108 #[vl, ptr p, v1] W (LPost W L)) :
  Calls Tryz.prog 101 #[ptr g, .int .i64 k] w (WPost w L) := by
 have c0 := hno.c0; have c1 := hno.c1; have c2 := hno.c2; have k0 := hy.c0; have k1 := hx.c0
 have HS := Lib.hid (fun W (hb : Below w.heap.size w W) => And.intro (hx.keep hb hx.lt).c0 (And.intro (hno.keep hb (At.lt hno)).c1 (hno.keep hb (At.lt hno)).c2))
 have he : side k y.1 = 0 := by rw [hs]; exact side_eq _
 have CC := Lib.hid (compare_any k y.1 w)
 have CW := Lib.hid cw; have CV := Lib.hid cv; have CF := Lib.hid cf
 have B0 : Below w.heap.size w w := Below.refl _ _
 have HB0 := Lib.hid B0
 rw [he] at CC
 clear hno hy hx cw cv cf hs
 go_enter Tryz.func101, Tryz.ntmps101
 go_wp2_with (first | (go_at_call 103; (with_reducible refine CC.out.mono ?_); rintro e w' ⟨rfl, rfl⟩) | (go_at_call 109; (with_reducible refine CF.out.mono ?_); rintro e w' ⟨rfl, rfl⟩))
 go_region_held3 (fun w' => (w'.cell? ⟨p, 0, none⟩ = some (.int .i64 x.1) ∧ w'.cell? ⟨g, 1, none⟩ = some vl ∧ w'.cell? ⟨g, 2, none⟩ = some (ptr gr)))
  (first | exact HS.out _ (by assumption) | exact HS.out _ (below_drewN (by assumption) 1) | fail)
  (first
   | (go_at_call 101; (with_reducible refine (CW.out _ (by first | assumption | exact HB0.out.drew)).mono ?_); rintro e w1 hp1; obtain ⟨v1, t1, rfl, T1, k1, b1⟩ := hp1.at HB0.out.drew)
   | (go_at_call 108; (with_reducible refine (CV.out _ _ _ b1 T1 k1).mono ?_); rintro e w2 hp2; obtain ⟨g2, t2, rfl, T2, k2, b2⟩ := hp2.at b1)
   | fail)
 all_goals go_wp2_with fail
 go_ret
 exact ⟨_, t2, rfl, T2, k2, b2⟩
theorem without_any : ∀ {t : T} {w : World} {v : Value} {k : Int}, TAt w w.heap.size v t → Rise t.kvs → t.kvs.length ≤ 70000 → Calls Tryz.prog 101 #[v, .int .i64 k] w (WPost w (del k t.kvs))
 | .nil, w, v, k, h, _, _ => by
  have e : v = .pointer none := h
  subst e
  exact wo_nil k w
 | .node l q y r, w, v, k, h, hr, hn => by
  obtain ⟨g, vl, vr, rfl, hg, hq, hno, hy, hl, hrr⟩ := h
  rw [T.kvs_node] at hr hn ⊢
  rw [List.length_append, List.length_cons] at hn
  obtain ⟨r1, r2, r3, r4⟩ := hr.parts
  rcases side_cases k y.1 with ⟨hs, _⟩ | ⟨hs, _⟩ | ⟨hs, _⟩
  ·rw [del_left hs r4]
   refine wo_lt hno hy hs (fun W hb => without_any ((hl.keep hb (Nat.le_refl _)).mono hb.size) r1 (by omega)) (fun W v1 t1 hb h1 hk => ?_)
   have := del_le (k := k) (l := l.kvs)
   rw [← hk]
   exact levelled_any h1 (hy.keep hb hy.lt) ((hrr.keep hb (Nat.le_refl _)).mono hb.size) (by rw [hk]; omega) (by omega)
  ·rw [del_mid hs.symm r3 r4]
   rcases hrr.form with ⟨rfl, rfl⟩ | ⟨gr, a, p2, x2, b, va, vb, rfl, htt, _⟩
   ·exact wo_one hno hy hs hl (by rw [T.kvs_nil, List.append_nil])
   ·have hne : r ≠ .nil := by rw [htt]; exact fun h => T.noConfusion h
    obtain ⟨p, x, rest, hits⟩ : ∃ p x rest, r.its = (p, x) :: rest := by
     cases hh : r.its with
     | nil => rw [htt] at hh; simp [T.its] at hh
     | cons z rest => exact ⟨z.1, z.2, rest, rfl⟩
    have hx : PAt w p x := (hrr.its_at (p, x) (by rw [hits]; exact List.mem_cons_self ..)).2
    have hkv : r.kvs = x :: rest.map (·.2) := by unfold T.kvs; rw [hits]; rfl
    refine wo_mid hno hy hs hx ?_ (fun W hb => without_any ((hrr.keep hb (Nat.le_refl _)).mono hb.size) r2 (by omega)) (fun W v1 t1 hb h1 hk => ?_)
    ·refine (first_any hrr hne).mono ?_
     rintro e w' ⟨rfl, p', x', rest', hi, rfl⟩
     rw [hits] at hi
     injection hi with h1 _
     injection h1 with h1 _
     subst h1
     exact ⟨rfl, rfl⟩
    ·have := del_le (k := x.1) (l := r.kvs)
     have hdel : del x.1 r.kvs = rest.map (·.2) := by
      rw [hkv] at r2 ⊢
      exact del_mid (A := []) rfl (by simp) r2.cons.2
     have e : l.kvs ++ r.kvs = l.kvs ++ x :: t1.kvs := by rw [hk, hdel, hkv]
     rw [e]
     exact levelled_any ((hl.keep hb (Nat.le_refl _)).mono hb.size) (hx.keep hb hx.lt) h1 (by omega) (by rw [hk]; omega)
  ·rw [del_right hs r3]
   refine wo_gt hno hy hs (fun W hb => without_any ((hrr.keep hb (Nat.le_refl _)).mono hb.size) r2 (by omega)) (fun W v1 t1 hb h1 hk => ?_)
   have := del_le (k := k) (l := r.kvs)
   rw [← hk]
   exact levelled_any ((hl.keep hb (Nat.le_refl _)).mono hb.size) (hy.keep hb hy.lt) h1 (by omega) (by rw [hk]; omega)
end
end Go.Proofs.YtplapoenhohliaaGreat.Sh
