/- KeysOnce: what holds behind every deed; the blocks of its loops. -/
import Derived.Test.YtedogbkkophghaaKyS
import Derived.Great.BuildSlice
namespace Go.Proofs.Ytedogbkkophghaa
open Go.RowKit Go.Lib
open Sh.Plain (KV get put Rise)
set_option linter.unusedVariables false
set_option linter.unusedSimpArgs false

def bang : ByteArray := ⟨#[33]⟩
/-- what is known of a deed that was done -/
structure Dn (c : Cfg) (b : Ky) (now : Int) (d : Ac) : Prop where
  who : isW d.who
  key : isU d.key
  sz : d.body.size ≤ 40
  ok : okc c = true
  low : stp d.key ≤ now
  got : now ≤ lastK c d.key → get (pl d.who d.key) b.l = some ⟨lastK c d.key, d.body, d.body ++ bang⟩
/-- the keys are of this building, or none -/
def KC (c : Cfg) (b : Ky) : Prop := (okc c = true ∧ b.c = c) ∨ (okc c = false ∧ b = zy)
theorem KC.make (c : Cfg) : KC c (makeK c) := by
  unfold KC makeK
  cases h : okc c
  · right; exact ⟨rfl, by simp⟩
  · left; exact ⟨rfl, by simp⟩
theorem KC.of_ok {c : Cfg} {b : Ky} (h : KC c b) (hb : okc b.c = true) : okc c = true ∧ b.c = c := by
  rcases h with h | ⟨h, rfl⟩
  · exact h
  · have : okc zc = false := by decide
    rw [show zy.c = zc from rfl, this] at hb
    cases hb
structure OI (c : Cfg) (b : Ky) (now : Int) (done : List Ac) : Prop where
  wf : Wf b
  kc : KC c b
  dn : ∀ d ∈ done, Dn c b now d
theorem OI.new (c : Cfg) : OI c (makeK c) 0 [] := ⟨Wf.make c, KC.make c, fun d hd => by simp at hd⟩
theorem Dn.tick {c : Cfg} {b : Ky} {now nt : Int} {d : Ac} (h : Dn c b now d) (hn : now ≤ nt) : Dn c b nt d := ⟨h.who, h.key, h.sz, h.ok, Int.le_trans h.low hn, fun hl => h.got (Int.le_trans hn hl)⟩
theorem OI.tick {c : Cfg} {b : Ky} {now nt : Int} {done : List Ac} (h : OI c b now done) (hn : now ≤ nt) : OI c b nt done := ⟨h.wf, h.kc, fun d hd => (h.dn d hd).tick hn⟩
theorem OI.withY {c : Cfg} {b : Ky} {now : Int} {done : List Ac} (h : OI c b now done) {x : Ac} (hk : isU x.key) (hs : x.body.size ≤ 40) (hl : (lookK b now x.who x.key x.body).2 = 1) :
    OI c (withY b now x.who x.key x.body (x.body ++ bang)) now (done ++ [x]) := by
  obtain ⟨hc, hg, hn⟩ := look_new hl
  obtain ⟨hw, hok, h1, h2, h3⟩ := canK_in hc
  obtain ⟨hcc, hbc⟩ := h.kc.of_ok hok
  refine ⟨h.wf.withY hw hk _ _, .inl ⟨hcc, hbc⟩, fun d hd => ?_⟩
  rcases List.mem_append.1 hd with hd | hd
  · have hd := h.dn d hd
    refine ⟨hd.who, hd.key, hd.sz, hd.ok, hd.low, fun hl2 => ?_⟩
    have hg2 := hd.got hl2
    rw [← hbc] at hl2
    rw [h.wf.get_with hw hk hd.who hd.key hl2, if_neg ?_]
    · exact hg2
    · rintro ⟨e1, e2⟩
      rw [e1, e2, hg] at hg2
      cases hg2
  · obtain rfl : d = x := by simpa using hd
    refine ⟨hw, hk, hs, hcc, h1, fun hl2 => ?_⟩
    have hl3 := hl2
    rw [← hbc] at hl3
    rw [h.wf.get_with hw hk hw hk hl3, if_pos ⟨rfl, rfl⟩]
    show some (entK b.c d.key d.body (d.body ++ bang)) = _
    rw [hbc]; rfl
theorem Dn.look {c : Cfg} {b : Ky} {nt : Int} {d x : Ac} (h : Dn c b nt d) (hb : b.c = c) (hn : nt ≤ 1073741824) (hw : d.who = x.who) (hk : d.key = x.key) :
    (goodK c x.key nt = true ∧ lookK b nt x.who x.key x.body = if d.body = x.body then (d.body ++ bang, 2) else (zt, 3)) ∨ (goodK c x.key nt = false ∧ lookK b nt x.who x.key x.body = (zt, 4)) := by
  have hl := h.low; have hw1 := h.who
  rw [hk] at hl; rw [hw] at hw1
  by_cases h1 : nt ≤ lastK c x.key
  · left
    have hg : goodK c x.key nt = true := by unfold goodK; rw [h.ok]; simp [hl, h1]
    refine ⟨hg, ?_⟩
    have hc : canK b.c nt x.who x.key = true := by
      unfold canK
      rw [hb, hg]
      unfold isW at hw1
      simp [hw1.1, hw1.2, hn]
    have hgt := h.got (by rw [hk]; exact h1)
    rw [hw, hk] at hgt
    unfold lookK
    rw [if_pos hc, hgt]
  · right
    have hg : goodK c x.key nt = false := by unfold goodK; simp [h1]
    refine ⟨hg, ?_⟩
    unfold lookK
    rw [if_neg ?_]
    unfold canK
    rw [hb, hg]
    simp
/-- no more count than there is room for -/
theorem cnt_room {c : Cfg} {b : Ky} {w : World} {o : Option Addr} (nt : Int) (hk : KC c b) (hf : b.fit) (ha : YAt w b o) : (((cnt nt b.l).length : Int) ≤ c.get 5) ∨ (cnt nt b.l).length = 0 := by
  have hl := Sh.SAt.le ha
  have h2 := cnt_le nt b.l
  rcases hk with ⟨h1, h3⟩ | ⟨h1, rfl⟩
  · left
    have h4 := hf (by rw [h3]; exact h1)
    rw [h3] at h4
    omega
  · right; rfl
/-- what a With that was New came to -/
theorem once_new {c : Cfg} {b m : Ky} {nt : Int} {done : List Ac} {x : Ac} {P : Nat} {s1 : ByteArray} {v1 : Int} (hoi : OI c b nt done) (hx : isU x.key) (hs : x.body.size ≤ 40) (hm : m = withY b nt x.who x.key x.body (x.body ++ bang)) (hr : lookK b nt x.who x.key x.body = (s1, v1)) (hl : (lookK b nt x.who x.key x.body).2 = 1) (hP : (cnt nt b.l).length = P) (hcr : (P : Int) ≤ c.get 5 ∨ P = 0) :
    v1 = 1 ∧ OI c m nt (done ++ [x]) ∧ ((cnt nt m.l).length : Int) = (P : Int) + 1 ∧ (P : Int) < c.get 5 ∧ c.get 5 ≤ 64 := by
  obtain ⟨hc, hg, hn5⟩ := look_new hl
  obtain ⟨hcw, hok2, _, hcl, _⟩ := canK_in hc
  obtain ⟨hcc, hbc⟩ := hoi.kc.of_ok hok2
  rw [hP, hbc] at hn5
  have h5 : lo 5 ≤ c.get 5 ∧ c.get 5 ≤ hi 5 := ok_at hcc (by decide)
  have h5 : (1 : Int) ≤ c.get 5 ∧ c.get 5 ≤ 64 := h5
  obtain ⟨w1, w2⟩ := cnt_with (body := x.body) (ans := x.body ++ bang) hoi.wf hcl hg
  subst hm
  rw [hr] at hl
  refine ⟨hl, hoi.withY hx hs (by rw [hr]; exact hl), ?_, by omega, h5.2⟩
  rw [w1, w2, hP]
  omega
theorem count_len {b : Ky} {o : Option Addr} {w : World} (nt : Int) (hb : YAt w b o) {n : Int} (hn : ((cnt nt b.l).length : Int) = n) : Calls Try.prog 19 #[b.V o, .int .i64 nt] w fun e w' => e = .returned (.int .i64 n) ∧ Below w.heap.size w w' := by
  have h := count_any nt hb
  rwa [hn] at h
/-- rows of deeds of one's own -/
def eD : Sh.El Ac := ⟨25, 39, 5, 48, .agg za.cells, fun y => y.cells.toList, fun _ => rfl, by simp [Ac.cells, Value.oneCell'], by decide, Try.underlying25, Sh.info_of (by kernel_rfl), rfl, by decide⟩
theorem rowD_at {w : World} {O : Option Addr} {n cap i : Nat} {xs : List Ac} {x : Ac} (h : Sh.Rd eD w (.slice O n cap) xs) (hx : xs[i]? = some x) : ∃ b off, O = some ⟨b, off, none⟩ ∧ b < w.heap.size ∧ w.rangeAt b (off + i * 5) x.cells.toList := by
  obtain ⟨O', cap', e, _, k⟩ := h
  injection e with e
  subst e
  exact k i x hx
section
variable {ops : Array Oper} {rest : List Oper} {o : Oper} {a : Act} {w : World} {Q : Exit → Act → World → Prop}
theorem wpList_slice_ac (y : Tmp) (ho : o.op = .buildSlice 25 1 #[(0, .tmp y)]) (hgd : o.guard = none) {c : Ac} (e : a.eval (.tmp y) = c.V)
    (k : wpList Try.prog ops Q rest (a.put o.dst (.slice (some ⟨w.heap.size, 0, none⟩) 1 1)) (w.alloc (.cells c.cells 39))) : wpList Try.prog ops Q (o :: rest) a w := by
  obtain ⟨ie, hie, hz, hsz, _⟩ := Sh.info_of (e := 39) (z := .agg Z5) (s := 5) (b := 48) (by kernel_rfl)
  refine wpList_buildSlice hgd 25 39 1 _ ho c.cells ie (.agg Z5) Try.underlying25 hie hz (by rw [hsz]; decide) (by rw [hsz]; decide) ?_ k
  rw [hsz]
  simp only [List.map_toArray, List.map_cons, List.map_nil, e]
  kernel_rfl
end
theorem chg_setRow (w : World) (q : Nat) (cs : Array Value) : Chg w (w.setRow q cs) (fun k => k = q) := by
  refine ⟨rfl, rfl, rfl, by simp [World.setRow], fun k _ hk => ?_⟩
  unfold World.setRow
  simp only [Array.getElem?_modify]
  rw [if_neg (fun e => hk e.symm)]
/-- the building, the keys, what was done -/
structure OS (w wx : World) (g q : Nat) (c : Cfg) (b : Ky) (ob : Option Addr) (rv : Value) (done : List Ac) : Prop where
  bel : Below w.heap.size w wx
  cat : CAt wx g c
  bk : KyAt wx q b ob
  at_ : YAt wx b ob
  row : Sh.Own eD wx w.heap.size rv done
  lo : w.heap.size ≤ q
theorem OS.step {w W W' : World} {g q : Nat} {c : Cfg} {b : Ky} {ob : Option Addr} {rv : Value} {done : List Ac} (h : OS w W g q c b ob rv done) (hb : Below W.heap.size W W') : OS w W' g q c b ob rv done :=
  ⟨h.bel.trans (hb.mono h.bel.size), At.step h.cat hb, At.step h.bk hb, h.at_.step hb, h.row.below hb, h.lo⟩
theorem OS.put {w W : World} {g q : Nat} {c : Cfg} {b d : Ky} {ob od : Option Addr} {rv : Value} {done : List Ac} (h : OS w W g q c b ob rv done) (hd : YAt W d od) : OS w (W.setRow q (d.cells od)) g q c d od rv done :=
  ⟨setRow_below h.bel h.lo _, At.farRow h.cat (At.ne h.cat h.bk (by decide)), At.setRow h.bk _, hd.farRow h.bk (by decide) (by decide), h.row.chg (chg_setRow _ _ _) (fun k hk e => by subst e; exact own_ne h.row h.bk (by decide) hk), h.lo⟩
theorem own_apart {w : World} {B g : Nat} {v : Value} {xs : List Ac} {t : TypeId} {cs : Array Value} (h : Sh.Own eD w B v xs) (ha : At w g t cs) (hne : 39 ≠ t) : ¬ v.ownBlock = some g := own_ne h ha hne
/-- a tree is as it was where a row of deeds is turned -/
theorem TAt.chg {w w' : World} {B : Nat} {rv : Value} {xs : List Ac} {B' : Nat} (hrow : Sh.Own eD w B' rv xs) (hc : Chg w w' (fun k => rv.ownBlock = some k)) : ∀ {t : Sh.Plain.T} {v : Value}, Sh.TAt w B v t → Sh.TAt w' B v t
  | .nil, _, h => h
  | .node l p x r, v, h => by
    obtain ⟨g, vl, vr, rfl, hg, hp, hn, hx, hl, hr⟩ := h
    exact ⟨g, vl, vr, rfl, hg, hp, At.chg hn hc (own_apart hrow hn (by decide)), At.chg hx hc (own_apart hrow hx (by decide)), TAt.chg hrow hc hl, TAt.chg hrow hc hr⟩
theorem YAt.chg {w w' : World} {b : Ky} {o : Option Addr} {B' : Nat} {rv : Value} {xs : List Ac} (h : YAt w b o) (hrow : Sh.Own eD w B' rv xs) (hc : Chg w w' (fun k => rv.ownBlock = some k)) : YAt w' b o := by
  obtain ⟨vt, t, e, h3, h4⟩ := h
  exact ⟨vt, t, e, (TAt.chg hrow hc h3).mono hc.size, h4⟩
/-- one deed more was done: the row with it, all else as it was -/
theorem OS.push {w W : World} {g q m : Nat} {c : Cfg} {b d : Ky} {ob od : Option Addr} {rv : Value} {done : List Ac} {x : Ac} (h : OS w W g q c b ob rv done) (hm : KyAt W m d od) (hd : YAt W d od) (hn : done.length ≤ 100000) (ty : TypeId) :
    ∃ rv' w', (Builtin.append_ #[25, 25] ty #[rv, .slice (some ⟨W.heap.size, 0, none⟩) 1 1]).run Try.prog (W.alloc (.cells x.cells 39)) = .ok rv' w' ∧ OS w w' g q c b ob rv' (done ++ [x]) ∧ KyAt w' m d od ∧ YAt w' d od := by
  have hb := below_new W (.cells x.cells 39)
  have h1 := h.step hb
  have m1 := At.step hm hb
  have d1 := hd.step hb
  obtain ⟨rv', w', hr, o', c', l'⟩ := h1.row.push (x := x) (b := W.heap.size) (off := 0) (cap := 1) h1.bel.size (fun j u hu => by
    rw [Nat.zero_add, (At.new W 39 x.cells).cell]
    simpa [eD] using hu) (by omega) ty
  refine ⟨rv', w', hr, ⟨h1.bel.trans ((Chg.toBelow (B := w.heap.size) c' h1.bel.size (fun k hk e => by have := (h1.row.lt e).1; omega))), At.chg h1.cat c' (own_apart h1.row h1.cat (by decide)), At.chg h1.bk c' (own_apart h1.row h1.bk (by decide)), h1.at_.chg h1.row c', o', h1.lo⟩, At.chg m1 c' (own_apart h1.row m1 (by decide)), d1.chg h1.row c'⟩
end Go.Proofs.Ytedogbkkophghaa
