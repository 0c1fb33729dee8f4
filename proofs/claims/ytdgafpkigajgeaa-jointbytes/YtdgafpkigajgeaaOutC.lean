/- The contracts of (*pack.Out).Num at one and at two numbers, of (*pack.Out).Text, String and Len, and of pack.Of. -/
import Derived.Test.YtdgafpkigajgeaaOutB
import Derived.Laws.BytesString
namespace Go.Proofs.Ytdgafpkigajgeaa
open Go.RowKit Go.Lib Plain

/-- bytes as a text -/
def textOf (l : List UInt8) : ByteArray := ⟨l.toArray⟩
theorem textOf_data (l : List UInt8) : (textOf l).data.toList = l := by simp [textOf]
theorem textOf_size (l : List UInt8) : (textOf l).size = l.length := by simp [textOf, ByteArray.size]
theorem textOf_of (s : ByteArray) : textOf s.data.toList = s := by simp [textOf]
theorem textOf_nil : textOf [] = ⟨#[]⟩ := rfl
theorem foldl_push (ns : List UInt8) (s : ByteArray) : (ns.map (fun x => (x.toNat : Int))).foldl (fun r n => r.push (UInt8.ofNat n.toNat)) s = ⟨s.data ++ ns.toArray⟩ := by
  induction ns generalizing s with
  | nil => simp
  | cons c ns ih => simp only [List.map_cons, List.foldl_cons, ih]; simp
theorem conv_own {w : World} {B : Nat} {v : Value} {bs : List UInt8} (h : Own w B v bs) : (convert 54 9 v).run Try.prog w = .ok (.string (textOf bs)) w := by
  rcases h.2 with ⟨rfl, h0⟩ | ⟨g, cap, cur, rfl, hb, hg, hnc, hcm, hcs, htake⟩
  · have : bs = [] := List.eq_nil_of_length_eq_zero h0
    subst this
    rw [run_convert_bytes_string w 54 9 5 _ _ _ Try.underlying54 Try.underlying5 Try.underlying9]
    rfl
  · rw [run_convert_bytes_string w 54 9 5 _ _ _ Try.underlying54 Try.underlying5 Try.underlying9]
    have e : byteCells bs = (bs.map (fun x => (x.toNat : Int))).map (Value.int .u8) := by simp [byteCells]
    have hc := h.cells (g := g) rfl
    have hr := run_loadCells_list (P := Try.prog) (w := w) ⟨g, 0, none⟩ (byteCells bs) hc
    rw [byteCells_length] at hr
    rw [run_bytesToString w ⟨g, 0, none⟩ _ cap (bs.map (fun x => (x.toNat : Int))) (by rw [hr, e]), foldl_push]
    simp [textOf]

set_option maxHeartbeats 400000 in
theorem string_some {w : World} {B p : Nat} {v : Value} {bs : List UInt8} (h : Out w B p v bs) : Calls Try.prog 22 #[.pointer (some ⟨p, 0, none⟩)] w fun e w' => e = .returned (.string (textOf bs)) ∧ w = w' := by
  have hcv := conv_own h.own
  have c1 : w.cell? ⟨p, 0, none⟩ = some v := by rw [h.at_.cell]; rfl
  have H := Lib.hid h; clear h
  go_enter Try.func22, Try.ntmps22
  go_wp2
  go_ret
  exact ⟨rfl, rfl⟩
set_option maxHeartbeats 400000 in
theorem string_nil (w : World) : Calls Try.prog 22 #[.pointer none] w fun e w' => e = .returned (.string ⟨#[]⟩) ∧ w = w' := by
  go_enter Try.func22, Try.ntmps22
  go_wp2
  go_ret
  exact ⟨rfl, rfl⟩
set_option maxHeartbeats 400000 in
theorem of_any (s : ByteArray) (w : World) : Calls Try.prog 29 #[.string s] w fun e w' => e = .returned (.pointer (some ⟨w.heap.size, 0, none⟩)) ∧ w.alloc (.cells #[.string s, .bool false] 76) = w' := by
  go_enter Try.func29, Try.ntmps29
  go_wp2
  go_ret
  exact ⟨rfl, rfl⟩

theorem num_one (B p b cap : Nat) (v : Value) (bs : List UInt8) (wd x : Int) (w : World) (ho : Out w B p v bs) (hB : B ≤ w.heap.size)
    (hc : w.cell? ⟨b, 0, none⟩ = some (.int .i64 x)) (hx : inI64 x) (hl : bs.length ≤ 1000000000) (hbs : ¬ outSet p v b) :
    Calls Try.prog 27 #[.pointer (some ⟨p, 0, none⟩), .int .i64 wd, .slice (some ⟨b, 0, none⟩) 1 cap] w fun e w' => e = .returned (.bool (okNums wd [x])) ∧ Wrote w B p v (numd wd [x] bs) w' := by
  by_cases hw : wide wd = true
  · exact num_some B p b 0 cap v bs wd [x] w ho hB (by intro i hi; simp at hi; subst hi; simpa using hc) (by intro n hn; simp at hn; subst hn; exact hx) hl (by simp) hbs hw
  · have hw : wide wd = false := by simpa using hw
    have hk : okNums wd [x] = false := by unfold okNums; rw [hw]; rfl
    refine (num_width p wd _ w hw).mono ?_
    rintro e w' ⟨rfl, rfl⟩
    rw [hk, numd_no _ hk]; exact ⟨rfl, Wrote.refl ho⟩
theorem num_two (B p b cap : Nat) (v : Value) (bs : List UInt8) (wd x y : Int) (w : World) (ho : Out w B p v bs) (hB : B ≤ w.heap.size)
    (hc : w.cell? ⟨b, 0, none⟩ = some (.int .i64 x)) (hd : w.cell? ⟨b, 1, none⟩ = some (.int .i64 y)) (hx : inI64 x) (hy : inI64 y) (hl : bs.length ≤ 1000000000) (hbs : ¬ outSet p v b) :
    Calls Try.prog 27 #[.pointer (some ⟨p, 0, none⟩), .int .i64 wd, .slice (some ⟨b, 0, none⟩) 2 cap] w fun e w' => e = .returned (.bool (okNums wd [x, y])) ∧ Wrote w B p v (numd wd [x, y] bs) w' := by
  by_cases hw : wide wd = true
  · exact num_some B p b 0 cap v bs wd [x, y] w ho hB (by
      intro i hi; simp at hi
      obtain rfl | rfl : i = 0 ∨ i = 1 := by omega
      · simpa using hc
      · simpa using hd) (by intro n hn; simp at hn; rcases hn with rfl | rfl <;> assumption) hl (by simp) hbs hw
  · have hw : wide wd = false := by simpa using hw
    have hk : okNums wd [x, y] = false := by unfold okNums; rw [hw]; rfl
    refine (num_width p wd _ w hw).mono ?_
    rintro e w' ⟨rfl, rfl⟩
    rw [hk, numd_no _ hk]; exact ⟨rfl, Wrote.refl ho⟩

theorem Out.alloc {w : World} {B p : Nat} {v : Value} {bs : List UInt8} (h : Out w B p v bs) (o : Obj) : Out (w.alloc o) B p v bs :=
  ⟨h.at_.alloc o, World.ownsRow.alloc h.own o, h.le⟩
theorem Out.chg {w w' : World} {S : Nat → Prop} {B p : Nat} {v : Value} {bs : List UInt8} (h : Out w B p v bs) (hc : Chg w w' S) (hp : ¬ S p) (hv : ∀ k, v.ownBlock = some k → ¬ S k) : Out w' B p v bs :=
  ⟨h.at_.chg hc hp, own_chg h.own hc hv, h.le⟩
theorem Out.new (w : World) (B : Nat) (hB : B ≤ w.heap.size) : Out (w.alloc (.cells #[.slice none 0 0] 56)) B w.heap.size (.slice none 0 0) [] :=
  ⟨At.new w 56 _, World.ownsRow_nil _ _ _ _, hB⟩
theorem Out.not_new {w : World} {B p : Nat} {v : Value} {bs : List UInt8} (h : Out w B p v bs) {k : Nat} (hk : w.heap.size ≤ k) : ¬ outSet p v k := by
  rintro (rfl | e)
  · have := h.at_.lt; omega
  · have := (h.own.lt k e).2; omega

/-- the bytes behind Text -/
def textd (s : ByteArray) (bs : List UInt8) : List UInt8 := if s.size ≤ 65535 then bs ++ num 2 s.size ++ s.data.toList else bs
theorem textd_yes {s : ByteArray} (bs : List UInt8) (h : s.size ≤ 65535) : textd s bs = bs ++ num 2 s.size ++ s.data.toList := if_pos h
theorem textd_no {s : ByteArray} (bs : List UInt8) (h : ¬ s.size ≤ 65535) : textd s bs = bs := if_neg h
theorem ok_len (n : Nat) : okNums 2 [(n : Int)] = decide (n ≤ 65535) := by
  unfold okNums
  have : wide 2 = true := by decide
  rw [this, Bool.eq_iff_iff]
  simp [fit_iff]
  omega

set_option maxRecDepth 100000 in
set_option maxHeartbeats 1600000 in
theorem text_some (B p : Nat) (v : Value) (bs : List UInt8) (s : ByteArray) (w : World) (ho : Out w B p v bs) (hB : B ≤ w.heap.size) (hs : s.size ≤ maxLen) (hl : bs.length ≤ 900000000) :
    Calls Try.prog 21 #[.pointer (some ⟨p, 0, none⟩), .string s] w fun e w' => e = .returned (.bool (decide (s.size ≤ 65535))) ∧ Wrote w B p v (textd s bs) w' := by
  unfold maxLen at hs
  have lp := ho.at_.lt
  have hnn := ho.not_new (Nat.le_refl _)
  have H := Lib.hid ho; have HN := Lib.hid hnn; clear ho hnn
  have hin : inI64 (s.size : Int) := ⟨by omega, by omega⟩
  by_cases hle : s.size ≤ 65535
  · obtain ⟨i0, hi0, hz0, hz1, hz2⟩ := info_parts info5
    have HZ0 := Lib.hid hz0; have HZ1 := Lib.hid hz1; have HZ2 := Lib.hid hz2; have HI := Lib.hid hi0; clear hz0 hz1 hz2 hi0
    have HIN := Lib.hid hin; clear hin
    go_enter Try.func21, Try.ntmps21
    go_wp2_with fail
    refine (num_one B p w.heap.size 1 v bs 2 s.size _ (H.out.alloc _) (by simp; omega) (by simp [go_sem]) HIN.out (by omega) HN.out).mono ?_
    rintro e w1 ⟨rfl, v1, ho1, hc1, hl1⟩
    have hd : decide (s.size ≤ 65535) = true := by simpa using hle
    rw [ok_len, hd]
    rw [numd_yes _ (by rw [ok_len]; exact hd)] at ho1
    have c1 : w1.cell? ⟨p, 0, none⟩ = some v1 := by rw [ho1.at_.cell]; rfl
    have f1 := ho1.at_.frozen 0
    have lp1 := ho1.at_.lt
    have nv := ho1.ne
    have hsz : w.heap.size + 1 ≤ w1.heap.size := by have := hc1.size; simp at this; omega
    have hlen : (bs ++ nums 2 [(s.size : Int)]).length ≤ 900000002 := by rw [List.length_append, nums_length]; simp; omega
    have hpos : 0 < (bs ++ nums 2 [(s.size : Int)]).length + s.size := by rw [List.length_append, nums_length]; simp; omega
    have HPOS := Lib.hid hpos; clear hpos
    have HLEN := Lib.hid hlen; have HO1 := Lib.hid ho1; have HC1 := Lib.hid hc1; have HL1 := Lib.hid hl1; clear hlen ho1 hc1 hl1 hd
    generalize hbp : bs ++ nums 2 [(s.size : Int)] = bp at HO1 HLEN HPOS
    have HBP := Lib.hid hbp; clear hbp
    go_wp2_with (at_builtin; (refine wpList_append_string_at _ rfl _ _ 54 9 rfl B 5 i0 Try.underlying54 Try.underlying9 HI.out HZ0.out HZ1.out HZ2.out _ _ _ rfl HO1.out.own s rfl (by have := HLEN.out; unfold maxLen; omega) (by have := HLEN.out; omega) (by omega) ?_); intro v2 w2 hown2 hgrow hlies; obtain ⟨gg, cp, hv2, _, _⟩ := hown2.form HPOS.out; subst hv2; have k1 : w2.cell? ⟨p, 0, none⟩ = some v1 := (by rw [hgrow.cell_far ⟨p, 0, none⟩ lp1 (Ne.symm nv)]; exact c1); have k2 : w2.frozen? ⟨p, 0, none⟩ = false := (by rw [hgrow.frozen_far ⟨p, 0, none⟩ lp1 (Ne.symm nv)]; exact f1))
    go_ret
    have R := out_stored (bq := bp ++ s.data.toList) HO1.out (Chg.refl w1 (fun _ => False)) hgrow (by have e : (bp ++ s.data.toList).length = bp.length + s.size := (by simp); unfold Own; rw [e, byteCells_append]; exact hown2) hlies
    have e1 : nums 2 [(s.size : Int)] = num 2 s.size := by simp [nums]
    have e2 := HBP.out
    rw [e1] at e2
    have C1 : Chg w w1 (outSet p v) := ((Chg.refl w (outSet p v)).alloc _).trans HC1.out (fun _ _ h => h)
    have L1 : Lies w v v1 := (Lies.refl w v).trans HL1.out (by simp)
    exact ⟨ret_bool (by simpa using hle), _, by rw [textd_yes _ hle, e2]; exact R.1, C1.trans R.2.1 (fun _ hk hs => outSet_lies L1 hk hs), L1.trans R.2.2 C1.size⟩
  · have hd : decide (s.size ≤ 65535) = false := by simpa using hle
    have HIN := Lib.hid hin; clear hin
    go_enter Try.func21, Try.ntmps21
    go_wp2_with fail
    refine (num_one B p w.heap.size 1 v bs 2 s.size _ (H.out.alloc _) (by simp; omega) (by simp [go_sem]) HIN.out (by omega) HN.out).mono ?_
    rintro e w1 ⟨rfl, v1, ho1, hc1, hl1⟩
    rw [ok_len, hd]
    rw [numd_no _ (by rw [ok_len]; exact hd)] at ho1
    have HO1 := Lib.hid ho1; have HC1 := Lib.hid hc1; have HL1 := Lib.hid hl1; clear ho1 hc1 hl1
    go_wp2_with fail
    go_ret
    exact ⟨ret_bool (by simpa using hle), v1, by rw [textd_no _ hle]; exact HO1.out, ((Chg.refl w (outSet p v)).alloc _).trans HC1.out (fun _ _ h => h), (Lies.refl w v).trans HL1.out (by simp)⟩
end Go.Proofs.Ytdgafpkigajgeaa
