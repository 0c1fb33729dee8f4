/- The contract of pack.Read at numbers, with the function 'read' of the statements. -/
import Derived.Test.YtoijipahcpdhcaaListB
namespace Go.Proofs.Ytoijipahcpdhcaa
open Go.RowKit Go.Lib Plain

def frd : Value := .func (.func 27) #[] #[]
/-- the numbers that single bytes are -/
def ints (l : List UInt8) : List Value := l.map fun b => Value.int .i64 (b.toNat : Int)
/-- within Read: the In, the variables that the closure holds, and the list so far -/
structure RS (w wx : World) (p : Nat) (s : ByteArray) (bad : Bool) (vl : Value) (l : List UInt8) : Prop where
  inn : InAt wx p s bad
  i : At wx w.heap.size 38 #[.pointer (some ⟨p, 0, none⟩)]
  v : At wx (w.heap.size + 1) 46 #[vl]
  own : wx.ownsRow w.heap.size 3 1 vl l.length (ints l)
  shape : (l = [] ∧ vl = .slice none 0 0) ∨ ∃ g cap, vl = .slice (some ⟨g, 0, none⟩) l.length cap
  chg : Chg w wx (fun k => k = p)
  lp : p < w.heap.size
theorem RS.took {w wx w' : World} {p : Nat} {s s' : ByteArray} {bad bad' : Bool} {vl : Value} {l : List UInt8} (h : RS w wx p s bad vl l) (ht : Took wx p s' bad' w') : RS w w' p s' bad' vl l := by
  have hne : ∀ k, w.heap.size ≤ k → ¬ k = p := fun k hk e => by have := h.lp; omega
  refine ⟨ht.1, h.i.chg ht.2 (hne _ (by omega)), h.v.chg ht.2 (hne _ (by omega)), own_chg h.own ht.2 (fun k hk => hne k (h.own.lt k hk).1), h.shape, chg_eq h.chg ht.2, h.lp⟩
theorem ints_length (l : List UInt8) : (ints l).length = l.length := by simp [ints]
theorem ints_snoc (l : List UInt8) (b : UInt8) : ints (l ++ [b]) = ints l ++ [.int .i64 (b.toNat : Int)] := by simp [ints]
/-- what Read hands back -/
def ListAt (w' : World) (H : Nat) (a : Option Addr) (l : List UInt8) : Prop := ∀ k, k < l.length → ∃ g, a = some ⟨g, 0, none⟩ ∧ H ≤ g ∧ w'.cell? ⟨g, k, none⟩ = some (.int .i64 ((l.getD k 0).toNat : Int))
theorem ListAt.of {w' : World} {H g cap : Nat} {l : List UInt8} (h : w'.ownsRow H 3 1 (.slice (some ⟨g, 0, none⟩) l.length cap) l.length (ints l)) : ListAt w' H (some ⟨g, 0, none⟩) l := by
  intro k hk
  refine ⟨g, rfl, (h.lt g rfl).1, ?_⟩
  rw [World.ownsRow.cellAt h _ (by omega)]
  simp [ints, hk]
theorem one_byte (b : UInt8) (R : List UInt8) : rdN 1 (textOf (b :: R)) = true ∧ inV 1 (textOf (b :: R)) = (b.toNat : Int) ∧ inS 1 (textOf (b :: R)) = textOf R := by
  have e1 : (b :: R).take (1 : Int).toNat = [b] := rfl
  have e2 : (b :: R).drop (1 : Int).toNat = R := rfl
  have hd : dec [b] = b.toNat := by simp [dec]
  have hb : b.toNat < 256 := b.toNat_lt
  have hr : rdN 1 (textOf (b :: R)) = true := by
    rw [rdN_iff, textOf_data, e1, hd, textOf_size]
    exact ⟨by decide, by simp, by omega⟩
  unfold inV inS
  rw [if_pos hr, if_pos hr, textOf_data, e1, e2, hd]
  exact ⟨hr, rfl, rfl⟩

set_option maxRecDepth 100000 in
set_option maxHeartbeats 3200000 in
theorem read_ok {w : World} {p : Nat} {s : ByteArray} (most : Int) (h : InAt w p s false) (hs : s.size ≤ 281474976710656) (hr : rdT most s = true) :
    Calls Try.prog 26 #[.pointer (some ⟨p, 0, none⟩), .int .i64 most, frd] w fun e w' => ∃ a cap, e = .returned (.slice a (dec (s.data.toList.take 2)) cap) ∧ ListAt w' w.heap.size a ((s.data.toList.drop 2).take (dec (s.data.toList.take 2))) ∧ InAt w' p (tS most s) false ∧ Chg w w' (fun k => k = p) := by
  obtain ⟨h2, hm, hl⟩ := (rdT_iff _ _).1 hr
  unfold tS
  rw [if_pos hr]
  have hd2 := dec2 s
  obtain ⟨n, hn⟩ : ∃ n, dec (s.data.toList.take 2) = n := ⟨_, rfl⟩
  rw [hn] at hm hl hd2 ⊢
  have hmf : ∀ (fn : Fn) (first cap : Array Value) (w : World), (Instr.makeFunc fn first cap).run Try.prog w = .ok (.func fn first cap) w := fun _ _ _ _ => rfl
  have hfe := run_eql_func Try.underlying50 (.func 27) #[] #[]
  have lp := At.lt h
  have hv2 : inV 2 s = (n : Int) := by unfold inV; rw [if_pos (by rw [rdN_two]; simpa using h2)]; exact congrArg _ hn
  have hs2 : inS 2 s = textOf (s.data.toList.drop 2) := by unfold inS; rw [if_pos (by rw [rdN_two]; simpa using h2)]; rfl
  have hb2 : inB 2 s false = false := by unfold inB; rw [if_pos (by rw [rdN_two]; simpa using h2)]
  have hsl : (s.data.toList.drop 2).length = s.size - 2 := by rw [List.length_drop, ← Lib.size_eq]
  have HSL := Lib.hid hsl
  obtain ⟨R, hR⟩ : ∃ R, s.data.toList.drop 2 = R := ⟨_, rfl⟩
  have hdd : s.data.toList.drop (2 + n) = R.drop n := by rw [← hR, List.drop_drop]
  rw [hdd]
  rw [hR] at hs2 hsl ⊢
  have HV2 := Lib.hid hv2; have HS2 := Lib.hid hs2; have HB2 := Lib.hid hb2; have HN := Lib.hid hn; have H := Lib.hid h; have HRL := Lib.hid hsl; clear hv2 hs2 hb2 hn h hr hdd hR hsl HSL
  unfold frd
  go_enter_defers Try.func26, Try.ntmps26
  go_wp2_with fail
  have rs0 : RS w ((w.alloc (.cells #[.pointer (some ⟨p, 0, none⟩)] 38)).alloc (.cells #[.slice none 0 0] 46)) p s false (.slice none 0 0) [] := by
    refine ⟨At.alloc (At.alloc H.out _) _, (At.new w 38 _).alloc _, ?_, World.ownsRow_nil _ _ _ _, .inl ⟨rfl, rfl⟩, ((Chg.refl w _).alloc _).alloc _, lp⟩
    have := At.new (w.alloc (.cells #[.pointer (some ⟨p, 0, none⟩)] 38)) 46 #[.slice none 0 0]
    simpa using this
  refine (inum_any 2 rs0.inn (by unfold maxLen; omega)).mono ?_
  rintro e w3 ⟨rfl, ht3⟩
  rw [HV2.out]
  rw [HS2.out, HB2.out] at ht3
  have rs3 := rs0.took ht3
  have RS3 := Lib.hid rs3; clear rs3 rs0 ht3
  go_wp2_with fail
  go_loopg [20] n (fun g s20 wx => ∃ (j : Nat) (vl : Value), j ≤ n ∧ g = n - j ∧ s20 = .int .i64 (j : Int) ∧ RS w wx p (textOf (R.drop j)) false vl (R.take j))
  case atStart => exact ⟨0, _, Nat.zero_le _, rfl, rfl, RS3.out⟩
  case round =>
    obtain ⟨j, vl, hj, hg, rfl, hrs⟩ := hrel
    have HG := Lib.hid hg; have HR := Lib.hid hrs; clear hg hrs RS3
    have ci : wr.cell? ⟨w.heap.size, 0, none⟩ = some (.pointer (some ⟨p, 0, none⟩)) := by rw [HR.out.i.cell]; rfl
    have cv : wr.cell? ⟨w.heap.size + 1, 0, none⟩ = some vl := by rw [HR.out.v.cell]; rfl
    have fv := HR.out.v.frozen 0
    by_cases hlt : j < n
    · have hjR : j < R.length := by have := HRL.out; omega
      have hdr : R.drop j = R[j] :: R.drop (j + 1) := List.drop_eq_getElem_cons hjR
      have htk : R.take (j + 1) = R.take j ++ [R[j]] := List.take_succ_eq_append_getElem hjR
      have hrs := HR.out
      rw [hdr] at hrs
      obtain ⟨b, hb⟩ : ∃ b, R[j] = b := ⟨_, rfl⟩
      rw [hb] at hrs htk
      obtain ⟨ho1, ho2, ho3⟩ := one_byte b (R.drop (j + 1))
      have hlj : (R.take j).length = j := by rw [List.length_take]; omega
      have HRS := Lib.hid hrs; have HTK := Lib.hid htk; have HO1 := Lib.hid ho1; have HO2 := Lib.hid ho2; have HO3 := Lib.hid ho3; have HLJ := Lib.hid hlj; clear hrs htk ho1 ho2 ho3 hdr hb hlj
      obtain ⟨i3, hi3, hz30, hz31, hz32⟩ := info_parts info3
      have I3 := Lib.hid hi3; have Z30 := Lib.hid hz30; have Z31 := Lib.hid hz31; have Z32 := Lib.hid hz32; clear hi3 hz30 hz31 hz32
      go_wp2_with fail
      refine (read27_any HRS.out.inn (by rw [textOf_size, List.length_cons, List.length_drop]; have := HRL.out; unfold maxLen; omega)).mono ?_
      rintro e w4 ⟨rfl, ht4⟩
      rw [HO2.out]
      rw [HO3.out, inB_ok HO1.out] at ht4
      have rs4 := HRS.out.took ht4
      clear ci cv fv
      have ci : w4.cell? ⟨w.heap.size, 0, none⟩ = some (.pointer (some ⟨p, 0, none⟩)) := by rw [rs4.i.cell]; rfl
      have cv : w4.cell? ⟨w.heap.size + 1, 0, none⟩ = some vl := by rw [rs4.v.cell]; rfl
      have fv := rs4.v.frozen 0
      have hz4 : w.heap.size + 1 < w4.heap.size := rs4.v.lt
      have ow4 : w4.ownsRow w.heap.size 3 1 vl j (ints (R.take j)) := by have := rs4.own; rw [HLJ.out] at this; exact this
      have nvl : vl.ownBlock ≠ some (w.heap.size + 1) := own_ne ow4 rs4.v (by decide)
      have RS4 := Lib.hid rs4; have OW4 := Lib.hid ow4; clear rs4 ow4 ht4
      go_wp2_with fail
      refine (bad_some RS4.out.inn).mono ?_
      rintro e w' ⟨rfl, rfl⟩
      go_wp2_with (at_builtin; (refine wpList_append_lies _ rfl (.tmp 27) (.tmp 29) 46 rfl w.heap.size 3 i3 _ 1 8 Try.underlying46 I3.out Z30.out Z31.out Z32.out rfl (by omega) vl j _ rfl (World.ownsRow.alloc OW4.out _) ⟨w4.heap.size, 0, none⟩ 1 1 [.int .i64 (b.toNat : Int)] rfl rfl (World.news_of_block (heap_alloc_new w4 _)) (by simp [Value.oneCell']) (by omega) (by unfold maxLen; omega) (by omega) (by simp; omega) (w4.heap.size + 1) (by simp) ?_); intro g5 cap5 w5 hown5 hgrow5 hat5 hlt5; have k1 : w5.cell? ⟨w.heap.size + 1, 0, none⟩ = some vl := (by rw [hgrow5.cell_far ⟨w.heap.size + 1, 0, none⟩ (by simp; omega) (Ne.symm nvl)]; rw [World.cell?_alloc_past _ _ _ hz4]; exact cv); have k2 : w5.frozen? ⟨w.heap.size + 1, 0, none⟩ = false := (by rw [hgrow5.frozen_far ⟨w.heap.size + 1, 0, none⟩ (by simp; omega) (Ne.symm nvl)]; rw [World.frozen?_alloc_past _ _ _ hz4]; exact fv))
      go_roundg (n - (j + 1))
      case measure => have := HG.out; omega
      case rel =>
        refine ⟨j + 1, .slice (some ⟨g5, 0, none⟩) (j + 1) cap5, by omega, rfl, by go_num, ?_⟩
        have c5 : Chg w4 w5 (fun k => vl.ownBlock = some k) := ((Chg.refl w4 _).alloc _).trans (Chg.grown hgrow5) (fun _ _ h => h)
        have hvl : ∀ k, vl.ownBlock = some k → w.heap.size ≤ k := fun k hk => (OW4.out.lt k hk).1
        have hl1 : (R.take (j + 1)).length = j + 1 := by rw [HTK.out, List.length_append, HLJ.out]; rfl
        have v5 := RS4.out.v.chg c5 nvl
        refine ⟨?_, ?_, by simpa using v5.set 0 _, ?_, .inr ⟨g5, cap5, by rw [hl1]⟩, ?_, lp⟩
        · exact At.far (At.chg RS4.out.inn c5 (fun e => by have := hvl _ e; omega)) (p := ⟨w.heap.size + 1, 0, none⟩) (by simp; omega) _
        · exact At.far (RS4.out.i.chg c5 (fun e => own_ne OW4.out RS4.out.i (by decide) e)) (p := ⟨w.heap.size + 1, 0, none⟩) (by simp) _
        · rw [hl1, HTK.out, ints_snoc]
          exact ownsRow_setCell_other hown5 (a := ⟨w.heap.size + 1, 0, none⟩) (own_ne hown5 v5 (by decide)) _
        · exact (RS4.out.chg.trans c5 (fun k hk e => by have := hvl _ e; omega)).set (p := ⟨w.heap.size + 1, 0, none⟩) (fun h9 => by simp at h9; omega) _
    · obtain rfl : j = n := by omega
      have hlj : (R.take j).length = j := by rw [List.length_take]; have := HRL.out; omega
      have HLJ := Lib.hid hlj; clear hlj
      have fin : ∀ (a : Option Addr) (cap : Nat), vl = .slice a j cap → ListAt (wr.setCell ⟨w.heap.size + 1, 0, none⟩ vl) w.heap.size a (R.take j) → ∃ a cap, Ending.returned (.slice a j cap) = .returned vl ∧ ListAt (wr.setCell ⟨w.heap.size + 1, 0, none⟩ vl) w.heap.size a (R.take j) ∧ InAt (wr.setCell ⟨w.heap.size + 1, 0, none⟩ vl) p (textOf (R.drop j)) false ∧ Chg w (wr.setCell ⟨w.heap.size + 1, 0, none⟩ vl) (fun k => k = p) := by
        intro a cap e hla
        refine ⟨a, cap, by rw [e], hla, At.far HR.out.inn (p := ⟨w.heap.size + 1, 0, none⟩) (by simp; omega) _, HR.out.chg.set (p := ⟨w.heap.size + 1, 0, none⟩) (fun h9 => by simp at h9; omega) _⟩
      have hset : At (wr.setCell ⟨w.heap.size + 1, 0, none⟩ vl) (w.heap.size + 1) 46 #[vl] := by simpa using HR.out.v.set 0 vl
      have hcell : (wr.setCell ⟨w.heap.size + 1, 0, none⟩ vl).cell? ⟨w.heap.size + 1, 0, none⟩ = some vl := by rw [hset.cell]; rfl
      have hrow : ∀ g cap, vl = .slice (some ⟨g, 0, none⟩) j cap → ListAt (wr.setCell ⟨w.heap.size + 1, 0, none⟩ vl) w.heap.size (some ⟨g, 0, none⟩) (R.take j) := by
        intro g cap e
        have ho := HR.out.own
        rw [e, HLJ.out] at ho
        refine ListAt.of (cap := cap) ?_
        rw [HLJ.out]
        exact ownsRow_setCell_other ho (a := ⟨w.heap.size + 1, 0, none⟩) (by rw [← e]; exact own_ne HR.out.own HR.out.v (by decide)) _
      have FIN := Lib.hid fin; have HROW := Lib.hid hrow; clear fin hrow hset
      rcases HR.out.shape with ⟨hl0, hv⟩ | ⟨g, cap, hv⟩
      · have hj0 : j = 0 := by have := HLJ.out; rw [hl0] at this; simpa using this.symm
        subst hj0
        subst hv
        clear hl0
        go_wp2_with fail
        refine leaves_cons (f := 35) (args := #[.pointer (some ⟨w.heap.size, 0, none⟩), .pointer (some ⟨w.heap.size + 1, 0, none⟩)]) (by simp) (by simp [go_sem]) ?_
        refine (read1_idle w.heap.size (w.heap.size + 1) _).mono ?_
        rintro e u' w8 ⟨rfl, rfl, rfl⟩
        obtain ⟨a, cap, e1, h9⟩ := FIN.out none 0 rfl (fun k hk => absurd hk (by simp))
        simp only [Leaves, settle, results, Try.results26]
        simp [go_sem, hcell]
        exact ⟨fun k hk => absurd hk (by simp), by simpa using h9.2.1, h9.2.2⟩
      · rw [HLJ.out] at hv
        subst hv
        go_wp2_with fail
        refine leaves_cons (f := 35) (args := #[.pointer (some ⟨w.heap.size, 0, none⟩), .pointer (some ⟨w.heap.size + 1, 0, none⟩)]) (by simp) (by simp [go_sem]) ?_
        refine (read1_idle w.heap.size (w.heap.size + 1) _).mono ?_
        rintro e u' w8 ⟨rfl, rfl, rfl⟩
        obtain ⟨a, cap', e1, h9⟩ := FIN.out _ _ rfl (HROW.out g cap rfl)
        simp only [Leaves, settle, results, Try.results26]
        simp [go_sem, hcell]
        injection e1 with e1; injection e1 with e1 e2 e3; subst e1; exact h9
end Go.Proofs.Ytoijipahcpdhcaa
