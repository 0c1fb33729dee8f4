/- The contract of does: a row of deeds. -/
import Derived.Test.YtdpgpdadgcogjaaAwake
import Derived.Test.YtdpgpdadgcogjaaShE
import Derived.Test.YtdpgpdadgcogjaaArgs
namespace Go.Proofs.Ytdpgpdadgcogjaa
open Go.RowKit Go.Lib Plain
set_option linter.unusedVariables false

/-- the number by which those are kept that have no rest -/
def byOf (v : Int) : Int := wrap64 (2 + wrap64 ((IntKind.u64.wrap v).tmod 3))
theorem room_of (z : Int) (a D : Nat) (hD : 0 < D) (hD2 : D ≤ 1000) (ha : a ≤ 1000) : ∃ n : Nat, a ≤ n ∧ n < a + D ∧ wrap64 ((a : Int) + wrap64 ((IntKind.u64.wrap z).tmod (D : Int))) = (n : Int) := by
  have h0 := wrap_u64_nonneg z
  have e : (IntKind.u64.wrap z).tmod (D : Int) = (IntKind.u64.wrap z) % (D : Int) := Int.tmod_eq_emod_of_nonneg h0
  have h1 := Int.emod_nonneg (IntKind.u64.wrap z) (show (D : Int) ≠ 0 by omega)
  have h2 := Int.emod_lt_of_pos (IntKind.u64.wrap z) (show (0 : Int) < (D : Int) by omega)
  refine ⟨a + ((IntKind.u64.wrap z) % (D : Int)).toNat, by omega, by omega, ?_⟩
  rw [e]
  unfold wrap64
  omega
theorem byOf_in (v : Int) : 2 ≤ byOf v ∧ byOf v ≤ 4 := by
  obtain ⟨n, h1, h2, h3⟩ := room_of v 2 3 (by omega) (by omega) (by omega)
  have : byOf v = (n : Int) := h3
  omega
/-- the pairs behind a deed -/
def deed (room : Nat) (l : List KV) (d : Deed) : List KV :=
  if d.kind = 1 ∨ d.kind = 2 ∨ d.kind = 3 then wput room d.k d.v l
  else if d.kind = 4 then del d.k l
  else if d.kind = 5 then l.filter (fun x => oddB (byOf d.v) x.2) else l
def deeds (room : Nat) (l : List KV) (ds : List Deed) : List KV := ds.foldl (deed room) l
section
variable {w w' : World} {v : Value} {l : List KV} {room : Nat}
/-- within does: the variable that holds the shelf, and the answer's -/
structure DSt (w wx : World) (l : List KV) (room : Nat) (x : Value) : Prop where
  at_ : At wx w.heap.size 26 #[x, .int .i64 (l.length : Int), .int .i64 (room : Int)]
  res : At wx (w.heap.size + 1) 26 #[.pointer none, .int .i64 0, .int .i64 0]
  sat : SAt wx (.agg #[x, .int .i64 (l.length : Int), .int .i64 (room : Int)]) l room
  bel : Below w.heap.size w wx
theorem DSt.below {wx wy : World} {x : Value} (h : DSt w wx l room x) (hb : Below wx.heap.size wx wy) : DSt w wy l room x :=
  ⟨h.at_.below hb h.at_.lt, h.res.below hb h.res.lt, h.sat.step hb, h.bel.trans (hb.mono h.bel.size)⟩
theorem SAt.store {q : Nat} {e : TypeId} {a b c x y z : Value} (h : SAt w v l room) (ha : At w q e #[a, b, c]) (h1 : e ≠ 74) (h2 : e ≠ 59) : SAt (((w.setCell ⟨q, 0, none⟩ x).setCell ⟨q, 1, none⟩ y).setCell ⟨q, 2, none⟩ z) v l room := by
  obtain ⟨vt, t, rfl, ht, rest⟩ := h
  refine ⟨vt, t, rfl, ?_, rest⟩
  have := ht.store3 (x := x) (y := y) (z := z) ha h1 h2
  simp only [size_set]
  exact this
/-- the variable is given another shelf -/
theorem DSt.put {wx : World} {x : Value} {l' : List KV} {o : Option Addr} (h : DSt w wx l room x) (hs : SAt wx (.agg #[.pointer o, .int .i64 (l'.length : Int), .int .i64 (room : Int)]) l' room) :
    DSt w (((wx.setCell ⟨w.heap.size, 0, none⟩ (.pointer o)).setCell ⟨w.heap.size, 1, none⟩ (.int .i64 (l'.length : Int))).setCell ⟨w.heap.size, 2, none⟩ (.int .i64 (room : Int))) l' room (.pointer o) := by
  have ne : w.heap.size + 1 ≠ w.heap.size := by omega
  exact ⟨h.at_.store3, ((h.res.far ne _).far ne _).far ne _, hs.store h.at_ (by decide) (by decide), ((h.bel.setCell (Nat.le_refl _) _).setCell (Nat.le_refl _) _).setCell (Nat.le_refl _) _⟩
theorem deeds_snoc (ds : List Deed) (j : Nat) (d : Deed) (h : ds[j]? = some d) : deeds room l (ds.take (j + 1)) = deed room (deeds room l (ds.take j)) d := by
  unfold deeds
  rw [List.take_add_one, h, List.foldl_append]
  rfl
set_option maxRecDepth 100000 in
set_option maxHeartbeats 3200000 in
/-- does: a row of deeds -/
theorem does_any {A : Option Addr} {cap B : Nat} {ds : List Deed} (h : SAt w v l room) (hA : ActsAt w w.heap.size A ds) (hn : ds.length ≤ 1000) :
    Calls Try.prog 21 #[v, .slice A ds.length cap] w (SPost w (deeds room l ds) room) := by
  have hmf : ∀ (fn : Fn) (first cap : Array Value) (w : World), (Instr.makeFunc fn first cap).run Try.prog w = .ok (.func fn first cap) w := fun _ _ _ _ => rfl
  obtain ⟨o, rfl⟩ := h.form
  have hst : DSt w (delW w o l.length room) (deeds room l (ds.take 0)) room (.pointer o) := by
    have hb : Below w.heap.size w (delW w o l.length room) := ((Below.refl _ _).alloc (Nat.le_refl _) _).alloc (by simp) _
    refine ⟨(At.new w 26 _).alloc _, ?_, h.step hb, hb⟩
    have := (At.new (w.alloc (.cells #[.pointer o, .int .i64 (l.length : Int), .int .i64 (room : Int)] 26)) 26 #[.pointer none, .int .i64 0, .int .i64 0])
    have e : (w.alloc (.cells #[.pointer o, .int .i64 (l.length : Int), .int .i64 (room : Int)] 26)).heap.size = w.heap.size + 1 := by simp
    rw [e] at this
    exact this
  have HST := Lib.hid hst; have HA := Lib.hid hA; clear hst hA h
  obtain ⟨n, hnn⟩ : ∃ n, ds.length = n := ⟨_, rfl⟩
  rw [hnn] at hn ⊢
  have HNN := Lib.hid hnn; clear hnn
  go_enter Try.func21, Try.ntmps21
  go_wp2_with fail
  go_loopg [5] n (fun gh s5 wx => ∃ (j : Nat) (o : Option Addr), j ≤ n ∧ gh = n - j ∧ s5 = .int .i64 (j : Int) ∧ DSt w wx (deeds room l (ds.take j)) room (.pointer o))
  case atStart => exact ⟨0, o, Nat.zero_le _, rfl, rfl, HST.out⟩
  case round =>
    obtain ⟨j, o1, hj, hg, rfl, hst⟩ := hrel
    have HG := Lib.hid hg; have KST := Lib.hid hst; clear hg hst HST
    by_cases hlt : j < n
    · have hjj : j < ds.length := by rw [HNN.out]; exact hlt
      have hdj : ds[j]? = some ds[j] := List.getElem?_eq_getElem hjj
      obtain ⟨b, off, rfl, hbl, c0, c1, c2⟩ := (HA.out.keep KST.out.bel) j hjj
      have hgd : ds.getD j noDeed = ds[j] := by simp [List.getD, hdj]
      rw [hgd] at c0 c1 c2
      have hsn := deeds_snoc (room := room) (l := l) ds j _ hdj
      generalize ds[j] = d at *
      obtain ⟨kd, k, x⟩ := d
      generalize deeds room l (ds.take j) = l1 at *
      have HSN := Lib.hid hsn; clear hsn hdj hgd
      simp only at c0 c1 c2
      have b3 : (j : Int) < (n : Int) := by omega
      have b4 : (0 : Int) ≤ (j : Int) := by omega
      have hb1 := below_new wr (.cells #[.int .i64 kd, .string k, .int .i64 x] 30)
      have ST1 := Lib.hid (KST.out.below hb1)
      have a1 := ST1.out.at_
      have v0 : wr.cell? ⟨w.heap.size, 0, none⟩ = some (.pointer o1) := by rw [KST.out.at_.cell]; rfl
      have v1 : wr.cell? ⟨w.heap.size, 1, none⟩ = some (.int .i64 (l1.length : Int)) := by rw [KST.out.at_.cell]; rfl
      have v2 : wr.cell? ⟨w.heap.size, 2, none⟩ = some (.int .i64 (room : Int)) := by rw [KST.out.at_.cell]; rfl
      have lw : w.heap.size < wr.heap.size := KST.out.at_.lt
      clear a1 hb1 KST
      by_cases k13 : kd = 1 ∨ kd = 2 ∨ kd = 3
      · have k13' := k13
        clear k13
        rcases k13' with e | e | e
        ·
            subst e
            have hd : deed room l1 ⟨1, k, x⟩ = wput room k x l1 := by unfold deed; rw [if_pos (by simp)]
            have HD := Lib.hid hd; clear hd
            have hwa : ∃ wa, wr.alloc (.cells #[.int .i64 1, .string k, .int .i64 x] 30) = wa := ⟨_, rfl⟩
            obtain ⟨wa, hwa⟩ := hwa
            have HWA := Lib.hid hwa
            rw [hwa] at ST1
            clear hwa
            go_wp2_with fail
            rw [HWA.out]
            refine (With_any k x ST1.out.sat).mono ?_
            rintro e w5 ⟨v5, rfl, s5, b5⟩
            clear HWA v0 v1 v2 lw c0 c1 c2
            obtain ⟨o5, rfl⟩ := s5.form
            have st5 := ST1.out.below b5
            have z0 := st5.at_.frozen 0; have z1 := st5.at_.frozen 1; have z2 := st5.at_.frozen 2
            have v0 : w5.cell? ⟨w.heap.size, 0, none⟩ = some (.pointer o1) := by rw [st5.at_.cell]; rfl
            have v1 : w5.cell? ⟨w.heap.size, 1, none⟩ = some (.int .i64 (l1.length : Int)) := by rw [st5.at_.cell]; rfl
            have v2 : w5.cell? ⟨w.heap.size, 2, none⟩ = some (.int .i64 (room : Int)) := by rw [st5.at_.cell]; rfl
            have ST5 := Lib.hid (st5.put s5)
            clear s5 b5 st5 ST1
            go_wp2_with fail
            go_roundg (n - (j + 1))
            case measure => have := HG.out; omega
            case rel => exact ⟨j + 1, o5, by omega, rfl, rfl, by rw [HSN.out, HD.out]; exact ST5.out⟩
        ·
            subst e
            have hd : deed room l1 ⟨2, k, x⟩ = wput room k x l1 := by unfold deed; rw [if_pos (by simp)]
            have HD := Lib.hid hd; clear hd
            have hwa : ∃ wa, wr.alloc (.cells #[.int .i64 2, .string k, .int .i64 x] 30) = wa := ⟨_, rfl⟩
            obtain ⟨wa, hwa⟩ := hwa
            have HWA := Lib.hid hwa
            rw [hwa] at ST1
            clear hwa
            go_wp2_with fail
            rw [HWA.out]
            refine (With_any k x ST1.out.sat).mono ?_
            rintro e w5 ⟨v5, rfl, s5, b5⟩
            clear HWA v0 v1 v2 lw c0 c1 c2
            obtain ⟨o5, rfl⟩ := s5.form
            have st5 := ST1.out.below b5
            have z0 := st5.at_.frozen 0; have z1 := st5.at_.frozen 1; have z2 := st5.at_.frozen 2
            have v0 : w5.cell? ⟨w.heap.size, 0, none⟩ = some (.pointer o1) := by rw [st5.at_.cell]; rfl
            have v1 : w5.cell? ⟨w.heap.size, 1, none⟩ = some (.int .i64 (l1.length : Int)) := by rw [st5.at_.cell]; rfl
            have v2 : w5.cell? ⟨w.heap.size, 2, none⟩ = some (.int .i64 (room : Int)) := by rw [st5.at_.cell]; rfl
            have ST5 := Lib.hid (st5.put s5)
            clear s5 b5 st5 ST1
            go_wp2_with fail
            go_roundg (n - (j + 1))
            case measure => have := HG.out; omega
            case rel => exact ⟨j + 1, o5, by omega, rfl, rfl, by rw [HSN.out, HD.out]; exact ST5.out⟩
        ·
            subst e
            have hd : deed room l1 ⟨3, k, x⟩ = wput room k x l1 := by unfold deed; rw [if_pos (by simp)]
            have HD := Lib.hid hd; clear hd
            have hwa : ∃ wa, wr.alloc (.cells #[.int .i64 3, .string k, .int .i64 x] 30) = wa := ⟨_, rfl⟩
            obtain ⟨wa, hwa⟩ := hwa
            have HWA := Lib.hid hwa
            rw [hwa] at ST1
            clear hwa
            go_wp2_with fail
            rw [HWA.out]
            refine (With_any k x ST1.out.sat).mono ?_
            rintro e w5 ⟨v5, rfl, s5, b5⟩
            clear HWA v0 v1 v2 lw c0 c1 c2
            obtain ⟨o5, rfl⟩ := s5.form
            have st5 := ST1.out.below b5
            have z0 := st5.at_.frozen 0; have z1 := st5.at_.frozen 1; have z2 := st5.at_.frozen 2
            have v0 : w5.cell? ⟨w.heap.size, 0, none⟩ = some (.pointer o1) := by rw [st5.at_.cell]; rfl
            have v1 : w5.cell? ⟨w.heap.size, 1, none⟩ = some (.int .i64 (l1.length : Int)) := by rw [st5.at_.cell]; rfl
            have v2 : w5.cell? ⟨w.heap.size, 2, none⟩ = some (.int .i64 (room : Int)) := by rw [st5.at_.cell]; rfl
            have ST5 := Lib.hid (st5.put s5)
            clear s5 b5 st5 ST1
            go_wp2_with fail
            go_roundg (n - (j + 1))
            case measure => have := HG.out; omega
            case rel => exact ⟨j + 1, o5, by omega, rfl, rfl, by rw [HSN.out, HD.out]; exact ST5.out⟩
      · by_cases k4 : kd = 4
        ·
            subst k4
            have hd : deed room l1 ⟨4, k, x⟩ = del k l1 := by unfold deed; rw [if_neg (by simp), if_pos rfl]
            have HD := Lib.hid hd; clear hd k13
            have hwa : ∃ wa, wr.alloc (.cells #[.int .i64 4, .string k, .int .i64 x] 30) = wa := ⟨_, rfl⟩
            obtain ⟨wa, hwa⟩ := hwa
            have HWA := Lib.hid hwa
            rw [hwa] at ST1
            clear hwa
            go_wp2_with fail
            rw [HWA.out]
            refine (Without_any k ST1.out.sat).mono ?_
            rintro e w5 ⟨v5, rfl, s5, b5⟩
            clear HWA v0 v1 v2 lw c0 c1 c2
            obtain ⟨o5, rfl⟩ := s5.form
            have st5 := ST1.out.below b5
            have z0 := st5.at_.frozen 0; have z1 := st5.at_.frozen 1; have z2 := st5.at_.frozen 2
            have v0 : w5.cell? ⟨w.heap.size, 0, none⟩ = some (.pointer o1) := by rw [st5.at_.cell]; rfl
            have v1 : w5.cell? ⟨w.heap.size, 1, none⟩ = some (.int .i64 (l1.length : Int)) := by rw [st5.at_.cell]; rfl
            have v2 : w5.cell? ⟨w.heap.size, 2, none⟩ = some (.int .i64 (room : Int)) := by rw [st5.at_.cell]; rfl
            have ST5 := Lib.hid (st5.put s5)
            clear s5 b5 st5 ST1
            go_wp2_with fail
            go_roundg (n - (j + 1))
            case measure => have := HG.out; omega
            case rel => exact ⟨j + 1, o5, by omega, rfl, rfl, by rw [HSN.out, HD.out]; exact ST5.out⟩
        · by_cases k5 : kd = 5
          ·
            subst k5
            have hd : deed room l1 ⟨5, k, x⟩ = l1.filter (fun y => oddB (byOf x) y.2) := by unfold deed; rw [if_neg (by simp), if_neg (by simp), if_pos rfl]
            have HD := Lib.hid hd; clear hd k13 k4
            have hby : wrap64 (2 + wrap64 ((IntKind.u64.wrap x).tmod 3)) = byOf x := rfl
            have HBY := Lib.hid hby; clear hby
            have hbi := byOf_in x
            have CK := Lib.hid (keep_is (fun W k y => is_any (byOf x) y k hbi.1 hbi.2 W) ST1.out.sat)
            unfold fkeep at CK
            clear hbi
            have hwa : ∃ wa, wr.alloc (.cells #[.int .i64 5, .string k, .int .i64 x] 30) = wa := ⟨_, rfl⟩
            obtain ⟨wa, hwa⟩ := hwa
            have HWA := Lib.hid hwa
            rw [hwa] at ST1 CK
            clear hwa
            go_wp2_with fail
            rw [HBY.out, HWA.out]
            refine CK.out.mono ?_
            rintro e w5 ⟨v5, rfl, s5, b5⟩
            clear HWA v0 v1 v2 lw c0 c1 c2 CK
            obtain ⟨o5, rfl⟩ := s5.form
            have st5 := ST1.out.below b5
            have z0 := st5.at_.frozen 0; have z1 := st5.at_.frozen 1; have z2 := st5.at_.frozen 2
            have v0 : w5.cell? ⟨w.heap.size, 0, none⟩ = some (.pointer o1) := by rw [st5.at_.cell]; rfl
            have v1 : w5.cell? ⟨w.heap.size, 1, none⟩ = some (.int .i64 (l1.length : Int)) := by rw [st5.at_.cell]; rfl
            have v2 : w5.cell? ⟨w.heap.size, 2, none⟩ = some (.int .i64 (room : Int)) := by rw [st5.at_.cell]; rfl
            have ST5 := Lib.hid (st5.put s5)
            clear s5 b5 st5 ST1
            go_wp2_with fail
            go_roundg (n - (j + 1))
            case measure => have := HG.out; omega
            case rel => exact ⟨j + 1, o5, by omega, rfl, rfl, by rw [HSN.out, HD.out]; exact ST5.out⟩
          · have hd : deed room l1 ⟨kd, k, x⟩ = l1 := by unfold deed; rw [if_neg k13, if_neg k4, if_neg k5]
            have n1 : ¬ kd = 1 := fun e => k13 (.inl e)
            have n2 : ¬ kd = 2 := fun e => k13 (.inr (.inl e))
            have n3 : ¬ kd = 3 := fun e => k13 (.inr (.inr e))
            have HD := Lib.hid hd; clear hd k13
            go_wp2_with fail
            go_roundg (n - (j + 1))
            case measure => have := HG.out; omega
            case rel => exact ⟨j + 1, o1, by omega, rfl, rfl, by rw [HSN.out, HD.out]; exact ST1.out⟩
    · obtain rfl : j = n := by omega
      have htk : ds.take j = ds := by rw [← HNN.out, List.take_length]
      rw [htk] at KST
      clear htk
      generalize deeds room l ds = l1 at *
      have st := KST.out
      have v0 : wr.cell? ⟨w.heap.size, 0, none⟩ = some (.pointer o1) := by rw [st.at_.cell]; rfl
      have v1 : wr.cell? ⟨w.heap.size, 1, none⟩ = some (.int .i64 (l1.length : Int)) := by rw [st.at_.cell]; rfl
      have v2 : wr.cell? ⟨w.heap.size, 2, none⟩ = some (.int .i64 (room : Int)) := by rw [st.at_.cell]; rfl
      have z0 := st.res.frozen 0; have z1 := st.res.frozen 1; have z2 := st.res.frozen 2
      have y0 : wr.cell? ⟨w.heap.size + 1, 0, none⟩ = some (.pointer none) := by rw [st.res.cell]; rfl
      have y1 : wr.cell? ⟨w.heap.size + 1, 1, none⟩ = some (.int .i64 0) := by rw [st.res.cell]; rfl
      have y2 : wr.cell? ⟨w.heap.size + 1, 2, none⟩ = some (.int .i64 0) := by rw [st.res.cell]; rfl
      have hfin := st.sat.store (x := .pointer o1) (y := .int .i64 (l1.length : Int)) (z := .int .i64 (room : Int)) st.res (by decide) (by decide)
      have hbf : Below w.heap.size w (((wr.setCell ⟨w.heap.size + 1, 0, none⟩ (.pointer o1)).setCell ⟨w.heap.size + 1, 1, none⟩ (.int .i64 (l1.length : Int))).setCell ⟨w.heap.size + 1, 2, none⟩ (.int .i64 (room : Int))) := ((st.bel.setCell (by simp) _).setCell (by simp) _).setCell (by simp) _
      have HF := Lib.hid (And.intro hfin hbf)
      clear st hfin hbf KST
      go_wp2_with fail
      exact bodyPost_ret (v := .agg #[.pointer o1, .int .i64 (l1.length : Int), .int .i64 (room : Int)]) (by simp [results, Try.results21, go_sem, *]) rfl ⟨_, rfl, HF.out.1, HF.out.2⟩
end
end Go.Proofs.Ytdpgpdadgcogjaa
