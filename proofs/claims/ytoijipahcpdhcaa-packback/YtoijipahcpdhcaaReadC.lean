/- The contract of pack.Read where nothing can be read, and of a nil In. -/
import Derived.Test.YtoijipahcpdhcaaReadB
namespace Go.Proofs.Ytoijipahcpdhcaa
open Go.RowKit Go.Lib Plain

/-- Read's end where it hands back nothing -/
structure REnd (w w8 : World) (p : Nat) : Prop where
  hcell : w8.cell? ⟨w.heap.size + 1, 0, none⟩ = some (.slice none 0 0)
  fin : InAt w8 p ⟨#[]⟩ true ∧ Chg w w8 (fun k => k = p)
theorem RS.end_ {w wx : World} {p : Nat} {vl : Value} {l : List UInt8} (h : RS w wx p ⟨#[]⟩ true vl l) : REnd w (wx.setCell ⟨w.heap.size + 1, 0, none⟩ (.slice none 0 0)) p := by
  have hset : At (wx.setCell ⟨w.heap.size + 1, 0, none⟩ (.slice none 0 0)) (w.heap.size + 1) 46 #[.slice none 0 0] := by simpa using h.v.set 0 (.slice none 0 0)
  have lp := h.lp
  exact ⟨by rw [hset.cell]; rfl, At.far h.inn (p := ⟨w.heap.size + 1, 0, none⟩) (by simp; omega) _, h.chg.set (p := ⟨w.heap.size + 1, 0, none⟩) (fun h9 => by simp at h9; omega) _⟩
theorem rdN1_empty : rdN 1 ⟨#[]⟩ = false := rdN_empty 1

set_option maxRecDepth 100000 in
set_option maxHeartbeats 3200000 in
theorem read_bad {w : World} {p : Nat} {s : ByteArray} {bad : Bool} (most : Int) (h : InAt w p s bad) (hs : s.size ≤ 281474976710656) (hr : rdT most s = false) (hbs : bad = false ∨ s = ⟨#[]⟩) :
    Calls Try.prog 26 #[.pointer (some ⟨p, 0, none⟩), .int .i64 most, frd] w fun e w' => e = .returned (.slice none 0 0) ∧ InAt w' p ⟨#[]⟩ true ∧ Chg w w' (fun k => k = p) := by
  have hmf : ∀ (fn : Fn) (first cap : Array Value) (w : World), (Instr.makeFunc fn first cap).run Try.prog w = .ok (.func fn first cap) w := fun _ _ _ _ => rfl
  have hfe := run_eql_func Try.underlying50 (.func 27) #[] #[]
  have lp := At.lt h
  have H := Lib.hid h; clear h
  have rs0 : RS w ((w.alloc (.cells #[.pointer (some ⟨p, 0, none⟩)] 38)).alloc (.cells #[.slice none 0 0] 46)) p s bad (.slice none 0 0) [] := by
    refine ⟨At.alloc (At.alloc H.out _) _, (At.new w 38 _).alloc _, ?_, World.ownsRow_nil _ _ _ _, .inl ⟨rfl, rfl⟩, ((Chg.refl w _).alloc _).alloc _, lp⟩
    have := At.new (w.alloc (.cells #[.pointer (some ⟨p, 0, none⟩)] 38)) 46 #[.slice none 0 0]
    simpa using this
  have RS0 := Lib.hid rs0; clear rs0
  unfold frd
  by_cases h2 : 2 ≤ s.size
  · have hbad : bad = false := by
      rcases hbs with hbs | hbs
      · exact hbs
      · rw [hbs] at h2; have e : (⟨#[]⟩ : ByteArray).size = 0 := rfl; rw [e] at h2; omega
    subst hbad
    have hd2 := dec2 s
    obtain ⟨n, hn⟩ : ∃ n, dec (s.data.toList.take 2) = n := ⟨_, rfl⟩
    have hno : ¬ ((n : Int) ≤ most ∧ n + 2 ≤ s.size) := fun h9 => by
      have := (rdT_iff most s).2 ⟨h2, by rw [hn]; exact h9.1, by rw [hn]; exact h9.2⟩
      rw [this] at hr; cases hr
    rw [hn] at hd2
    have hv2 : inV 2 s = (n : Int) := by unfold inV; rw [if_pos (by rw [rdN_two]; simpa using h2)]; exact congrArg _ hn
    have hs2 : inS 2 s = textOf (s.data.toList.drop 2) := by unfold inS; rw [if_pos (by rw [rdN_two]; simpa using h2)]; rfl
    have hb2 : inB 2 s false = false := by unfold inB; rw [if_pos (by rw [rdN_two]; simpa using h2)]
    have hsl : (s.data.toList.drop 2).length = s.size - 2 := by rw [List.length_drop, ← Lib.size_eq]
    obtain ⟨R, hR⟩ : ∃ R, s.data.toList.drop 2 = R := ⟨_, rfl⟩
    rw [hR] at hs2 hsl
    have hR9 : R.length ≤ 281474976710656 := by omega
    have HV2 := Lib.hid hv2; have HS2 := Lib.hid hs2; have HB2 := Lib.hid hb2; have HN := Lib.hid hn; have HRL := Lib.hid hsl; have HNO := Lib.hid hno; clear hv2 hs2 hb2 hn hr hR hsl hno hbs
    go_enter_defers Try.func26, Try.ntmps26
    go_wp2_with fail
    refine (inum_any 2 RS0.out.inn (by unfold maxLen; omega)).mono ?_
    rintro e w3 ⟨rfl, ht3⟩
    rw [HV2.out]
    rw [HS2.out, HB2.out] at ht3
    have rs3 := RS0.out.took ht3
    have ci : w3.cell? ⟨w.heap.size, 0, none⟩ = some (.pointer (some ⟨p, 0, none⟩)) := by rw [rs3.i.cell]; rfl
    have RS3 := Lib.hid rs3; clear rs3 ht3 RS0
    by_cases hm : most < (n : Int)
    · go_wp2_with fail
      refine (spoil_some RS3.out.inn).mono ?_
      rintro e w4 ⟨rfl, ht4⟩
      have rs4 := RS3.out.took ht4
      have cv : w4.cell? ⟨w.heap.size + 1, 0, none⟩ = some (.slice none 0 0) := by rw [rs4.v.cell]; rfl
      have fv := rs4.v.frozen 0
      have RE := rs4.end_
      have HRE := Lib.hid RE; clear RE rs4 ht4 ci
      go_wp2_with fail
      refine leaves_cons (f := 35) (args := #[.pointer (some ⟨w.heap.size, 0, none⟩), .pointer (some ⟨w.heap.size + 1, 0, none⟩)]) (by simp) (by simp [go_sem]) ?_
      refine (read1_idle w.heap.size (w.heap.size + 1) _).mono ?_
      rintro e u' w8 ⟨rfl, rfl, rfl⟩
      simp [Leaves, settle, results, Try.results26, go_sem, HRE.out.hcell]
      exact HRE.out.fin
    have hRn : R.length < n := by
      have h1 := HNO.out
      have h2 := HRL.out
      have : ¬ n + 2 ≤ s.size := fun h9 => h1 ⟨by omega, h9⟩
      omega
    clear ci
    go_wp2_with fail
    go_loopg [20] R.length (fun g s20 wx => ∃ (j : Nat) (vl : Value), j ≤ R.length ∧ g = R.length - j ∧ s20 = .int .i64 (j : Int) ∧ RS w wx p (textOf (R.drop j)) false vl (R.take j))
    case atStart => exact ⟨0, _, Nat.zero_le _, rfl, rfl, RS3.out⟩
    case round =>
      obtain ⟨j, vl, hj, hg, rfl, hrs⟩ := hrel
      have HG := Lib.hid hg; have HR := Lib.hid hrs; clear hg hrs RS3
      have ci : wr.cell? ⟨w.heap.size, 0, none⟩ = some (.pointer (some ⟨p, 0, none⟩)) := by rw [HR.out.i.cell]; rfl
      have cv : wr.cell? ⟨w.heap.size + 1, 0, none⟩ = some vl := by rw [HR.out.v.cell]; rfl
      have fv := HR.out.v.frozen 0
      by_cases hjR : j < R.length
      · have hlt : (j : Int) < (n : Int) := by omega
        have hdr : R.drop j = R[j] :: R.drop (j + 1) := List.drop_eq_getElem_cons hjR
        have htk : R.take (j + 1) = R.take j ++ [R[j]] := List.take_succ_eq_append_getElem hjR
        have hrs := HR.out
        rw [hdr] at hrs
        obtain ⟨b, hb⟩ : ∃ b, R[j] = b := ⟨_, rfl⟩
        rw [hb] at hrs htk
        obtain ⟨ho1, ho2, ho3⟩ := one_byte b (R.drop (j + 1))
        have hlj : (R.take j).length = j := by rw [List.length_take]; omega
        have HRS := Lib.hid hrs; have HTK := Lib.hid htk; have HO1 := Lib.hid ho1; have HO2 := Lib.hid ho2; have HO3 := Lib.hid ho3; have HLJ := Lib.hid hlj; clear hrs htk ho1 ho2 ho3 hdr hb hlj
        obtain ⟨i3, hi3, hz30, hz31, hz32⟩ := info_parts info3
        have I3 := Lib.hid hi3; have Z30 := Lib.hid hz30; have Z31 := Lib.hid hz31; have Z32 := Lib.hid hz32; clear hi3 hz30 hz31 hz32
        go_wp2_with fail
        refine (read27_any HRS.out.inn (by rw [textOf_size, List.length_cons, List.length_drop]; have := hR9; unfold maxLen; omega)).mono ?_
        rintro e w4 ⟨rfl, ht4⟩
        rw [HO2.out]
        rw [HO3.out, inB_ok HO1.out] at ht4
        have rs4 := HRS.out.took ht4
        clear ci cv fv
        have ci : w4.cell? ⟨w.heap.size, 0, none⟩ = some (.pointer (some ⟨p, 0, none⟩)) := by rw [rs4.i.cell]; rfl
        have cv : w4.cell? ⟨w.heap.size + 1, 0, none⟩ = some vl := by rw [rs4.v.cell]; rfl
        have fv := rs4.v.frozen 0
        have hz4 : w.heap.size + 1 < w4.heap.size := rs4.v.lt
        have ow4 : w4.ownsRow w.heap.size 3 1 vl j (ints (R.take j)) := by have := rs4.own; rw [HLJ.out] at this; exact this
        have nvl : vl.ownBlock ≠ some (w.heap.size + 1) := own_ne ow4 rs4.v (by decide)
        have RS4 := Lib.hid rs4; have OW4 := Lib.hid ow4; clear rs4 ow4 ht4
        go_wp2_with fail
        refine (bad_some RS4.out.inn).mono ?_
        rintro e w' ⟨rfl, rfl⟩
        go_wp2_with (at_builtin; (refine wpList_append_lies _ rfl (.tmp 27) (.tmp 29) 46 rfl w.heap.size 3 i3 _ 1 8 Try.underlying46 I3.out Z30.out Z31.out Z32.out rfl (by omega) vl j _ rfl (World.ownsRow.alloc OW4.out _) ⟨w4.heap.size, 0, none⟩ 1 1 [.int .i64 (b.toNat : Int)] rfl rfl (World.news_of_block (heap_alloc_new w4 _)) (by simp [Value.oneCell']) (by omega) (by unfold maxLen; omega) (by omega) (by simp; omega) (w4.heap.size + 1) (by simp) ?_); intro g5 cap5 w5 hown5 hgrow5 hat5 hlt5; have k1 : w5.cell? ⟨w.heap.size + 1, 0, none⟩ = some vl := (by rw [hgrow5.cell_far ⟨w.heap.size + 1, 0, none⟩ (by simp; omega) (Ne.symm nvl)]; rw [World.cell?_alloc_past _ _ _ hz4]; exact cv); have k2 : w5.frozen? ⟨w.heap.size + 1, 0, none⟩ = false := (by rw [hgrow5.frozen_far ⟨w.heap.size + 1, 0, none⟩ (by simp; omega) (Ne.symm nvl)]; rw [World.frozen?_alloc_past _ _ _ hz4]; exact fv))
        go_roundg (R.length - (j + 1))
        case measure => have := HG.out; omega
        case rel =>
          refine ⟨j + 1, .slice (some ⟨g5, 0, none⟩) (j + 1) cap5, by omega, rfl, by go_num, ?_⟩
          have c5 : Chg w4 w5 (fun k => vl.ownBlock = some k) := ((Chg.refl w4 _).alloc _).trans (Chg.grown hgrow5) (fun _ _ h => h)
          have hvl : ∀ k, vl.ownBlock = some k → w.heap.size ≤ k := fun k hk => (OW4.out.lt k hk).1
          have hl1 : (R.take (j + 1)).length = j + 1 := by rw [HTK.out, List.length_append, HLJ.out]; rfl
          have v5 := RS4.out.v.chg c5 nvl
          refine ⟨?_, ?_, by simpa using v5.set 0 _, ?_, .inr ⟨g5, cap5, by rw [hl1]⟩, ?_, lp⟩
          · exact At.far (At.chg RS4.out.inn c5 (fun e => by have := hvl _ e; omega)) (p := ⟨w.heap.size + 1, 0, none⟩) (by simp; omega) _
          · exact At.far (RS4.out.i.chg c5 (fun e => own_ne OW4.out RS4.out.i (by decide) e)) (p := ⟨w.heap.size + 1, 0, none⟩) (by simp) _
          · rw [hl1, HTK.out, ints_snoc]
            exact ownsRow_setCell_other hown5 (a := ⟨w.heap.size + 1, 0, none⟩) (own_ne hown5 v5 (by decide)) _
          · exact (RS4.out.chg.trans c5 (fun k hk e => by have := hvl _ e; omega)).set (p := ⟨w.heap.size + 1, 0, none⟩) (fun h9 => by simp at h9; omega) _
      · obtain rfl : j = R.length := by omega
        have hrs := HR.out
        rw [List.drop_length] at hrs
        have HRS := Lib.hid hrs; clear hrs
        have hlt : (R.length : Int) < (n : Int) := by omega
        have e1 : inS 1 (textOf []) = ⟨#[]⟩ := by unfold inS; rw [if_neg (by rw [textOf_nil, rdN1_empty]; decide)]
        have e2 : inB 1 (textOf []) false = true := by unfold inB; rw [if_neg (by rw [textOf_nil, rdN1_empty]; decide)]
        have E1 := Lib.hid e1; have E2 := Lib.hid e2; clear e1 e2
        go_wp2_with fail
        refine (read27_any HRS.out.inn (by rw [textOf_size]; unfold maxLen; simp)).mono ?_
        rintro e w4 ⟨rfl, ht4⟩
        rw [E1.out, E2.out] at ht4
        have rs4 := HRS.out.took ht4
        clear ci cv fv
        have ci : w4.cell? ⟨w.heap.size, 0, none⟩ = some (.pointer (some ⟨p, 0, none⟩)) := by rw [rs4.i.cell]; rfl
        have cv : w4.cell? ⟨w.heap.size + 1, 0, none⟩ = some vl := by rw [rs4.v.cell]; rfl
        have fv := rs4.v.frozen 0
        have RE := rs4.end_
        have HRE := Lib.hid RE; have RS4 := Lib.hid rs4; clear RE rs4 ht4
        go_wp2_with fail
        refine (bad_some RS4.out.inn).mono ?_
        rintro e w' ⟨rfl, rfl⟩
        go_wp2_with fail
        refine leaves_cons (f := 35) (args := #[.pointer (some ⟨w.heap.size, 0, none⟩), .pointer (some ⟨w.heap.size + 1, 0, none⟩)]) (by simp) (by simp [go_sem]) ?_
        refine (read1_idle w.heap.size (w.heap.size + 1) _).mono ?_
        rintro e u' w8 ⟨rfl, rfl, rfl⟩
        simp [Leaves, settle, results, Try.results26, go_sem, HRE.out.hcell]
        exact HRE.out.fin
  · have e0 : rdN 2 s = false := by rw [rdN_two]; simpa using h2
    have hv2 : inV 2 s = 0 := by unfold inV; rw [if_neg (by rw [e0]; decide)]
    have hs2 : inS 2 s = ⟨#[]⟩ := by unfold inS; rw [if_neg (by rw [e0]; decide)]
    have hb2 : inB 2 s bad = true := by unfold inB; rw [if_neg (by rw [e0]; decide)]
    have HV2 := Lib.hid hv2; have HS2 := Lib.hid hs2; have HB2 := Lib.hid hb2; clear hv2 hs2 hb2 hr hbs e0
    go_enter_defers Try.func26, Try.ntmps26
    go_wp2_with fail
    refine (inum_any 2 RS0.out.inn (by unfold maxLen; omega)).mono ?_
    rintro e w3 ⟨rfl, ht3⟩
    rw [HV2.out]
    rw [HS2.out, HB2.out] at ht3
    have rs3 := RS0.out.took ht3
    have ci : w3.cell? ⟨w.heap.size, 0, none⟩ = some (.pointer (some ⟨p, 0, none⟩)) := by rw [rs3.i.cell]; rfl
    have cv : w3.cell? ⟨w.heap.size + 1, 0, none⟩ = some (.slice none 0 0) := by rw [rs3.v.cell]; rfl
    have fv := rs3.v.frozen 0
    have RS3 := Lib.hid rs3; clear rs3 ht3 RS0
    by_cases hm : most < 0
    · go_wp2_with fail
      refine (spoil_some RS3.out.inn).mono ?_
      rintro e w4 ⟨rfl, ht4⟩
      have rs4 := RS3.out.took ht4
      clear cv fv
      have cv : w4.cell? ⟨w.heap.size + 1, 0, none⟩ = some (.slice none 0 0) := by rw [rs4.v.cell]; rfl
      have fv := rs4.v.frozen 0
      have RE := rs4.end_
      have HRE := Lib.hid RE; clear RE rs4 ht4 ci
      go_wp2_with fail
      refine leaves_cons (f := 35) (args := #[.pointer (some ⟨w.heap.size, 0, none⟩), .pointer (some ⟨w.heap.size + 1, 0, none⟩)]) (by simp) (by simp [go_sem]) ?_
      refine (read1_idle w.heap.size (w.heap.size + 1) _).mono ?_
      rintro e u' w8 ⟨rfl, rfl, rfl⟩
      simp [Leaves, settle, results, Try.results26, go_sem, HRE.out.hcell]
      exact HRE.out.fin
    · have RE := RS3.out.end_
      have HRE := Lib.hid RE; clear RE
      go_wp2_with fail
      go_loopg [20] 0 (fun g s20 wx => w3 = wx ∧ s20 = .int .i64 0)
      case atStart => exact ⟨rfl, rfl⟩
      case round =>
        obtain ⟨rfl, rfl⟩ := hrel
        go_wp2_with fail
        refine leaves_cons (f := 35) (args := #[.pointer (some ⟨w.heap.size, 0, none⟩), .pointer (some ⟨w.heap.size + 1, 0, none⟩)]) (by simp) (by simp [go_sem]) ?_
        refine (read1_idle w.heap.size (w.heap.size + 1) _).mono ?_
        rintro e u' w8 ⟨rfl, rfl, rfl⟩
        simp [Leaves, settle, results, Try.results26, go_sem, HRE.out.hcell]
        exact HRE.out.fin

set_option maxHeartbeats 800000 in
theorem read_nil (most : Int) (w : World) (h : 0 ≤ most) : Calls Try.prog 26 #[.pointer none, .int .i64 most, frd] w fun e w' => e = .returned (.slice none 0 0) ∧ Below w.heap.size w w' := by
  have hmf : ∀ (fn : Fn) (first cap : Array Value) (w : World), (Instr.makeFunc fn first cap).run Try.prog w = .ok (.func fn first cap) w := fun _ _ _ _ => rfl
  have hfe := run_eql_func Try.underlying50 (.func 27) #[] #[]
  unfold frd
  go_enter_defers Try.func26, Try.ntmps26
  go_wp2_with (go_at_call 16; refine (inum_nil 2 _ (by decide)).mono ?_; rintro e w' ⟨rfl, rfl⟩)
  go_loopg [20] 0 (fun g s20 wx => (w.alloc (.cells #[.pointer none] 38)).alloc (.cells #[.slice none 0 0] 46) = wx ∧ s20 = .int .i64 0)
  case atStart => exact ⟨rfl, rfl⟩
  case round =>
    obtain ⟨rfl, rfl⟩ := hrel
    go_wp2_with fail
    refine leaves_cons (f := 35) (args := #[.pointer (some ⟨w.heap.size, 0, none⟩), .pointer (some ⟨w.heap.size + 1, 0, none⟩)]) (by simp) (by simp [go_sem]) ?_
    refine (read1_idle w.heap.size (w.heap.size + 1) _).mono ?_
    rintro e u' w8 ⟨rfl, rfl, rfl⟩
    simp [Leaves, settle, results, Try.results26, go_sem]
    exact ((Below.refl _ _).alloc (Nat.le_refl _) _).alloc (by simp) _
end Go.Proofs.Ytoijipahcpdhcaa
