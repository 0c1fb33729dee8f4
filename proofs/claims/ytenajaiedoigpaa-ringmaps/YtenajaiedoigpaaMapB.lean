/- The contracts of Map: numbers to pairs, and pairs to numbers. -/
import Derived.Test.YtenajaiedoigpaaMapA
import Derived.Deep.DrawnRows
namespace Go.Proofs.Ytenajaiedoigpaa
open Go.RowKit Go.Lib Plain
attribute [local go_sem ↓] Go.wp_at_zero Go.wp_at_succ

section
variable {w w1 wx : World} {B p room m : Nat}
theorem RP.Row.below {G n j : Nat} {xs : List (Int × Bool)} (h : RP.Row w G n j xs) (hb : Below w.heap.size w w1) : RP.Row w1 G n j xs := by
  obtain ⟨arr, ha, h2⟩ := h; exact ⟨arr, ha.below hb ha.lt, h2⟩
theorem RP.Row.ring {G n j b : Nat} {rt pt : TypeId} {xs : List (Int × Bool)} (h : RP.Row w G n j xs) (hc : Chg w w1 (RBlk rt pt w b)) (h1 : (48 : TypeId) ≠ rt) (h2 : (48 : TypeId) ≠ pt) : RP.Row w1 G n j xs := by
  obtain ⟨arr, ha, h3⟩ := h; exact ⟨arr, ha.ring hc h1 h2, h3⟩
/-- what Map makes of numbers -/
def MapTo (w : World) (room : Nat) (ys : List (Int × Bool)) (e : Ending) (w' : World) : Prop :=
  ∃ q its' m', e = .returned (.pointer (some ⟨q, 0, none⟩)) ∧ its'.map (·.1) = ys ∧ RAt three 88 83 w' w.heap.size q room its' m' ∧ Below w.heap.size w w'
/-- the state of the loop -/
structure MSt (w wx : World) (V q room j : Nat) (its' : List ((Int × Bool) × Nat)) (vl : Value) (xs : List Int) : Prop where
  list : OwnI wx w.heap.size vl xs
  var : At wx V 45 #[.pointer (some ⟨q, 0, none⟩)]
  made : RAt three 88 83 wx w.heap.size q room its' j
  bel : Below w.heap.size w wx
theorem MSt.below {V q j : Nat} {its' : List ((Int × Bool) × Nat)} {vl : Value} {xs : List Int} (h : MSt w wx V q room j its' vl xs) (hb : Below wx.heap.size wx w1) : MSt w w1 V q room j its' vl xs :=
  ⟨h.list.below hb, h.var.below hb h.var.lt, h.made.below hb, h.bel.trans (hb.mono h.bel.size)⟩
theorem MSt.push {V q j j' : Nat} {its' its2 : List ((Int × Bool) × Nat)} {vl : Value} {xs : List Int} (h : MSt w wx V q room j its' vl xs) (hr : RAt three 88 83 w1 w.heap.size q room its2 j') (hc : Chg wx w1 (RBlk 88 83 wx w.heap.size)) : MSt w w1 V q room j' its2 vl xs :=
  ⟨h.list.ring hc (by decide) (by decide), h.var.ring hc (by decide) (by decide), hr, h.bel.trans (hc.toBelow h.bel.size (fun k hk e => by have := e.1; omega))⟩
theorem RAt.monoB {α : Type} {φ : Array Value → Nat → (Nat → α × Nat) → Prop} {rt pt : TypeId} {B' : Nat} {its : List (α × Nat)} (h : RAt φ rt pt w B p room its m) (hB : B' ≤ B) : RAt φ rt pt w B' p room its m := by
  obtain ⟨v, f, L, cap, n, pl, h, e⟩ := h
  refine ⟨v, f, L, cap, n, pl, ⟨h.at_, Nat.le_trans hB h.lo, ?_, h.lc, h.lr, h.nl, h.rm, h.fl, h.asc⟩, e⟩
  rcases h.rows with h0 | ⟨g, e, hg, hp⟩
  · exact .inl h0
  · exact .inr ⟨g, e, by omega, hp⟩
theorem OwnI.at {g n cap i : Nat} {zs : List Int} (h : OwnI w B (.slice (some ⟨g, 0, none⟩) n cap) zs) (hi : i < zs.length) : w.cell? ⟨g, i, none⟩ = some (.int .i64 (zs.getD i 0)) := by
  have hn := h.len
  subst hn
  have := World.ownsRow.cells h (g := g) rfl i (.int .i64 (zs.getD i 0)) (by simp [hi])
  rw [add_at, Nat.zero_add] at this
  exact this
theorem take_map {α β : Type} (f : α → β) (d : α) (zs : List α) {j : Nat} (h : j < zs.length) : (zs.take (j + 1)).map f = (zs.take j).map f ++ [f (zs.getD j d)] := by
  have e : zs[j]?.toList = [zs.getD j d] := by simp [List.getD, h]
  rw [List.take_add_one, List.map_append, e]; rfl
set_option maxRecDepth 100000 in
set_option maxHeartbeats 1600000 in
theorem map1_any {its : List (Int × Nat)} (h : RAt (two (Value.int .i64)) 68 70 w B p room its m) (hn : its.length ≤ 1000) (hr1 : 1 ≤ room) :
    Calls Try.prog 22 #[.pointer (some ⟨p, 0, none⟩), fmade] w (MapTo w room ((its.map (·.1)).map mk)) := by
  have hmf : ∀ (fn : Fn) (first cap : Array Value) (w : World), (Instr.makeFunc fn first cap).run Try.prog w = .ok (.func fn first cap) w := fun _ _ _ _ => rfl
  have hfe := run_eql_func Try.underlying49 (.func 23) #[] #[]
  obtain ⟨ys, hys⟩ : ∃ ys, (its.map (·.1)).map mk = ys := ⟨_, rfl⟩
  rw [hys]
  have hb0 : Below w.heap.size w (w.alloc (.cells #[.pointer none] 45)) := (Below.refl _ _).alloc (Nat.le_refl _) _
  have hlr := h.length
  have c3 : w.cell? ⟨p, 3, none⟩ = some (.int .i64 (room : Int)) := by obtain ⟨_, _, _, _, _, _, h, _⟩ := h; exact h.f3
  have lp := h.lt
  have av : At (w.alloc (.cells #[.pointer none] 45)) w.heap.size 45 #[.pointer none] := At.new w 45 _
  have hxl : (its.map (·.1)).length = its.length := List.length_map ..
  have H := Lib.hid h; have HB0 := Lib.hid hb0; have AV := Lib.hid av; clear h hb0 av
  have CN := Lib.hid (RP.new_any (w.alloc (.cells #[.pointer none] 45)) room hr1 hlr.2)
  unfold fmade
  go_enter_defers Try.func22, Try.ntmps22
  go_wp2_with fail
  refine CN.out.mono ?_
  rintro e w2 ⟨rfl, hr2, hb2⟩
  have hq : w.heap.size ≤ (w.alloc (.cells #[.pointer none] 45)).heap.size := by simp
  have bb2 := HB0.out.trans (hb2.mono hq)
  have av2 := AV.out.below hb2 AV.out.lt
  have ri2 := H.out.below bb2
  have hr2' := hr2.monoB hq
  have cv2 : w2.cell? ⟨w.heap.size, 0, none⟩ = some (.pointer none) := by rw [av2.cell]; rfl
  have fv2 := av2.frozen 0
  generalize (w.alloc (.cells #[.pointer none] 45)).heap.size = q at *
  have cs : Chg w2 (w2.setCell ⟨w.heap.size, 0, none⟩ (.pointer (some ⟨q, 0, none⟩))) (fun k => k = w.heap.size) := (Chg.refl w2 (fun k => k = w.heap.size)).set (p := ⟨w.heap.size, 0, none⟩) (fun _ => rfl) _
  have hoff : ∀ rt pt B, (45 : TypeId) ≠ rt → (45 : TypeId) ≠ pt → ∀ k, RBlk rt pt w2 B k → ¬ k = w.heap.size := by
    rintro rt pt B h1 h2 k ⟨_, cs, hs | hs⟩ rfl
    · exact av2.ne hs h1 rfl
    · exact av2.ne hs h2 rfl
  have ri3 := ri2.chg cs (hoff 68 70 B (by decide) (by decide))
  have rp3 := hr2'.chg cs (hoff 88 83 w.heap.size (by decide) (by decide))
  have av3 : At (w2.setCell ⟨w.heap.size, 0, none⟩ (.pointer (some ⟨q, 0, none⟩))) w.heap.size 45 #[.pointer (some ⟨q, 0, none⟩)] := by simpa using av2.set 0 (.pointer (some ⟨q, 0, none⟩))
  have bb3 := bb2.setCell (p := ⟨w.heap.size, 0, none⟩) (Nat.le_refl _) (.pointer (some ⟨q, 0, none⟩))
  obtain ⟨w3, hw3⟩ : ∃ w3, w2.setCell ⟨w.heap.size, 0, none⟩ (.pointer (some ⟨q, 0, none⟩)) = w3 := ⟨_, rfl⟩
  rw [hw3] at ri3 rp3 av3 bb3
  have cl := RI.list_any ri3
  have HW3 := Lib.hid hw3; have CL := Lib.hid cl; have RP3 := Lib.hid rp3; have AV3 := Lib.hid av3; have BB3 := Lib.hid bb3
  clear hw3 cl rp3 av3 bb3 ri3 cs hoff hr2 hr2' ri2 av2 bb2 hb2 CN AV HB0 c3
  go_wp2_with fail
  rw [HW3.out]
  refine CL.out.mono ?_
  rintro e w4 ⟨rfl, hrow, hb4⟩
  have hown : OwnI w4 w.heap.size (.slice (some ⟨w3.heap.size, 0, none⟩) its.length its.length) (its.map (·.1)) := by
    rw [← hxl] at hrow ⊢
    exact hrow.own BB3.out.size (by rw [hxl]; omega)
  have st0 : MSt w w4 w.heap.size q room 0 [] (.slice (some ⟨w3.heap.size, 0, none⟩) its.length its.length) (its.map (·.1)) :=
    ⟨hown, AV3.out.below hb4 AV3.out.lt, RP3.out.below hb4, BB3.out.trans (hb4.mono BB3.out.size)⟩
  generalize w3.heap.size = G at *
  have ST0 := Lib.hid st0; clear st0 hown hrow hb4 CL RP3 AV3 BB3 HW3 cv2 fv2
  have HYS := Lib.hid hys; clear hys
  generalize its.map (·.1) = xs at *
  generalize its.length = n at *
  go_wp2_with fail
  go_loopg [22, 6] n (fun gh s22 s6 wx => ∃ (j : Nat) (its' : List ((Int × Bool) × Nat)), j ≤ n ∧ gh = n - j ∧ s22 = .int .i64 (j : Int) ∧ its'.map (·.1) = (xs.take j).map mk ∧ MSt w wx w.heap.size q room j its' (.slice (some ⟨G, 0, none⟩) n n) xs)
  case atStart => exact ⟨0, [], Nat.zero_le _, rfl, rfl, rfl, ST0.out⟩
  case round =>
    obtain ⟨j, its', hj, hg, rfl, hmap, hst⟩ := hrel
    have HG := Lib.hid hg; have KST := Lib.hid hst; have HMAP := Lib.hid hmap; clear hg hst ST0 hmap
    have cv : wr.cell? ⟨w.heap.size, 0, none⟩ = some (.pointer (some ⟨q, 0, none⟩)) := by rw [KST.out.var.cell]; rfl
    have lv := KST.out.var.lt
    by_cases hlt : j < n
    · have hc := KST.out.list.at (i := j) (by omega)
      have htk := take_map mk 0 xs (show j < xs.length by omega)
      generalize xs.getD j 0 = x at hc htk
      have hll : its'.length = j := by
        have := congrArg List.length HMAP.out
        rw [List.length_map, List.length_map, List.length_take] at this
        omega
      have b3 : (j : Int) < (n : Int) := by omega
      have b4 : (0 : Int) ≤ (j : Int) := by omega
      have HTK := Lib.hid htk; have HLL := Lib.hid hll; clear htk hll
      have CM := Lib.hid (fun W => made_any x W)
      go_wp2_with fail
      go_region_held3 (fun w' => w'.cell? ⟨w.heap.size, 0, none⟩ = some (.pointer (some ⟨q, 0, none⟩)))
        (first | go_keep | exact S4 | exact S5)
        (first
          | (go_at_call 23; (with_reducible refine (CM.out _).mono ?_); rintro e w4 ⟨rfl, hw4⟩; have st4 : MSt w w4 w.heap.size q room j its' (.slice (some ⟨G, 0, none⟩) n n) xs := (by rw [hw4]; exact KST.out.below (((below_drewN (Below.refl _ _) 1)).alloc (Nat.le_refl _) _)); have S4 : w4.cell? ⟨w.heap.size, 0, none⟩ = some (.pointer (some ⟨q, 0, none⟩)) := (by rw [st4.var.cell]; rfl); have ST4 := Lib.hid st4; clear st4 hw4)
          | (go_at_call 46; (with_reducible refine (RP.push_any (mk x) ST4.out.made ST4.out.bel.size (by rw [HLL.out]; omega) (by omega)).mono ?_); rintro e w5 ⟨rfl, hr5, hc5⟩; have st5 := ST4.out.push hr5 hc5; have S5 : w5.cell? ⟨w.heap.size, 0, none⟩ = some (.pointer (some ⟨q, 0, none⟩)) := (by rw [st5.var.cell]; rfl); have ST5 := Lib.hid st5; clear st5 hr5 hc5))
      all_goals go_wp2_with fail
      go_roundg (n - (j + 1))
      case measure => have := HG.out; omega
      case rel => exact ⟨j + 1, _, by omega, rfl, by go_num, by rw [List.map_append, HMAP.out, HTK.out]; rfl, ST5.out⟩
    · obtain rfl : j = n := by omega
      have fv := KST.out.var.frozen 0
      have av := KST.out.var
      have hset : At (wr.setCell ⟨w.heap.size, 0, none⟩ (.pointer (some ⟨q, 0, none⟩))) w.heap.size 45 #[.pointer (some ⟨q, 0, none⟩)] := by simpa using av.set 0 (.pointer (some ⟨q, 0, none⟩))
      have hcell : (wr.setCell ⟨w.heap.size, 0, none⟩ (.pointer (some ⟨q, 0, none⟩))).cell? ⟨w.heap.size, 0, none⟩ = some (.pointer (some ⟨q, 0, none⟩)) := by rw [hset.cell]; rfl
      have hmp := HMAP.out
      rw [List.take_of_length_le (by omega)] at hmp
      have cs : Chg wr (wr.setCell ⟨w.heap.size, 0, none⟩ (.pointer (some ⟨q, 0, none⟩))) (fun k => k = w.heap.size) := (Chg.refl wr (fun k => k = w.heap.size)).set (p := ⟨w.heap.size, 0, none⟩) (fun _ => rfl) _
      have hfin : MapTo w room ys (.returned (.pointer (some ⟨q, 0, none⟩))) (wr.setCell ⟨w.heap.size, 0, none⟩ (.pointer (some ⟨q, 0, none⟩))) := by
        refine ⟨q, its', j, rfl, hmp.trans HYS.out, KST.out.made.chg cs ?_, KST.out.bel.setCell (Nat.le_refl _) _⟩
        rintro k ⟨_, cs, hs | hs⟩ rfl
        · exact av.ne hs (by decide) rfl
        · exact av.ne hs (by decide) rfl
      have HFIN := Lib.hid hfin
      clear hfin cs hmp hset av
      go_wp2_with fail
      refine leaves_cons (f := 44) (args := #[.pointer (some ⟨w.heap.size, 0, none⟩)]) (by simp) (by simp [go_sem]) ?_
      refine (map1_idle w.heap.size _).mono ?_
      rintro e u' w8 ⟨rfl, rfl, rfl⟩
      simp only [Leaves, settle, results, Try.results22]
      simp [go_sem, hcell]
      exact HFIN.out
end
end Go.Proofs.Ytenajaiedoigpaa
