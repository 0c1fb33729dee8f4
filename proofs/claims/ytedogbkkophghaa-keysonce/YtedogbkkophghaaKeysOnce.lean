/- The walk of KeysOnce. -/
import Derived.Test.YtedogbkkophghaaKyO
import Derived.Laws.Concat
namespace Go.Proofs.Ytedogbkkophghaa
open Go.RowKit Go.Lib
open Sh.Plain (KV get put Rise)
set_option linter.unusedVariables false
set_option linter.unusedSimpArgs false

theorem run_bang {ρ : Operand → Value} {w : World} {x : Tmp} {d : Option Tmp} {t t2 : TypeId} {pos : String} {af : Array Edge} {gd : Option (Nat × Bool)} {s : ByteArray} (e : ρ (.tmp x) = .string s) (ec : ∀ v, ρ (.const v) = v) (hs : s.size ≤ 40) :
    (execOp ρ { dst := d, op := Op.binOp .add 9 (.tmp x) (.const (.string ⟨#[33]⟩)) t2, type := t, pos := pos, after := af, guard := gd }).run Try.prog w = .ok (.value (.string (s ++ bang))) w := by
  have h := run_string_add_sum (P := Try.prog) (w := w) s bang (by have : bang.size = 1 := rfl; omega)
  have hb : (⟨#[33]⟩ : ByteArray) = bang := rfl
  simp [execOp, e, ec, go_sem, hb, h]
theorem wpList_bang {ops : Array Oper} {rest : List Oper} {o : Oper} {a : Act} {w : World} {Q : Exit → Act → World → Prop} {s : ByteArray} (hs : s.size ≤ 40) (x : Tmp) (t2 : TypeId) (ho : o.op = Op.binOp .add 9 (.tmp x) (.const (.string ⟨#[33]⟩)) t2) (hgd : Region.wanted o (yielded ops a.tmps) = true) (e : a.eval (.tmp x) = .string s)
    (k : wpList Try.prog ops Q rest (a.put o.dst (.string (s ++ bang))) w) : wpList Try.prog ops Q (o :: rest) a w := by
  obtain ⟨d, op, t, pos, af, gd⟩ := o
  subst ho
  exact wpList_run hgd _ (run_bang e (fun _ => rfl) hs) k
/-- within a round: the deed in a block of its own -/
structure IS (w wx : World) (g q gx : Nat) (c : Cfg) (b : Ky) (ob : Option Addr) (rv : Value) (done : List Ac) (x : Ac) : Prop where
  os : OS w wx g q c b ob rv done
  kx : AcAt wx gx x
theorem IS.step {w W W' : World} {g q gx : Nat} {c : Cfg} {b : Ky} {ob : Option Addr} {rv : Value} {done : List Ac} {x : Ac} (h : IS w W g q gx c b ob rv done x) (hb : Below W.heap.size W W') : IS w W' g q gx c b ob rv done x := ⟨h.os.step hb, At.step h.kx hb⟩
set_option maxRecDepth 100000 in
set_option maxHeartbeats 12000000 in
theorem keysOnce_walk (c : Cfg) (A : Option Addr) (cap : Nat) (acts : List Ac) (w : World) (hok : ∀ z ∈ acts, z.Ok) (hA : ActsAt w w.heap.size A acts) (hml : acts.length ≤ maxLen) :
    Calls Try.prog 5 #[c.V, .slice A acts.length cap] w fun e w' => e = .returned (.bool true) ∧ Below w.heap.size w w' := by
  have H := Lib.hid (new1 w c.cells 24)
  have HOK := Lib.hid hok; have HA := Lib.hid hA
  have CM := Lib.hid (fun W => make_any c W)
  have HI0 := Lib.hid (OI.new c)
  obtain ⟨N, hN⟩ : ∃ N, acts.length = N := ⟨_, rfl⟩
  have HN := Lib.hid hN
  rw [hN] at hml ⊢
  have HML : Hid (N ≤ 9223372036854775807) := Lib.hid (by unfold maxLen at hml; omega)
  clear hok hA hN hml
  go_enter Try.func5, Try.ntmps5
  go_upto_region 1 with fail
  obtain ⟨W0, hW⟩ : ∃ W0, w.alloc (.cells c.cells 24) = W0 := ⟨_, rfl⟩
  rw [hW] at H ⊢; clear hW
  have KC0 : Hid (CAt W0 w.heap.size c) := Lib.hid H.out.2
  have HB0 := Lib.hid H.out.1; clear H
  have CA := Lib.hid (awake_any W0)
  go_wp2_with fail
  refine CA.out.mono ?_
  rintro e w1 ⟨rfl, hb1⟩
  have KC1 : Hid (CAt w1 w.heap.size c) := Lib.hid (At.step KC0.out hb1)
  have HB := Lib.hid (HB0.out.trans (hb1.mono HB0.out.size))
  clear KC0 HB0 CA hb1
  go_upto_region 4 with (first | ((with_reducible apply wpList_load_cat (h := KC1.out)); exact rfl; exact rfl; exact rfl) | (go_at_call 8; (with_reducible refine (CM.out _).mono ?_); rintro e v0 ⟨o0, rfl, ha0, hb0⟩) | ((with_reducible apply wpList_store_kynew (b := makeK c) (s := o0)); exact rfl; exact rfl; exact rfl; exact rfl))
  have hn := below_new v0 (.cells ((makeK c).cells o0) 31)
  have hk := KyAt.new v0 (makeK c) o0
  have hy := ha0.step hn
  have hc := At.step (At.step KC1.out hb0) hn
  have hbb := (HB.out.trans (hb0.mono HB.out.size)).trans (hn.mono (HB.out.trans (hb0.mono HB.out.size)).size)
  have hlo := (HB.out.trans (hb0.mono HB.out.size)).size
  obtain ⟨W1, hW⟩ : ∃ W1, v0.alloc (.cells ((makeK c).cells o0) 31) = W1 := ⟨_, rfl⟩
  rw [hW] at hn hk hy hc hbb ⊢; clear hW hn
  generalize v0.heap.size = q at *
  have hos : OS w (W1.alloc (.cells #[] 39)) w.heap.size q c (makeK c) o0 (.slice (some ⟨W1.heap.size, 0, none⟩) 0 0) [] := by
    have h2 := below_new W1 (.cells #[] 39)
    exact ⟨hbb.trans (h2.mono hbb.size), At.step hc h2, At.step hk h2, hy.step h2, Sh.Own.lit0 eD W1 hbb.size, hlo⟩
  have HOS0 := Lib.hid hos
  clear hk hy hc hbb hlo hos ha0 hb0 KC1 HB CM
  generalize makeK c = b0 at *
  go_upto_region 6 with fail
  obtain ⟨W2, hW⟩ : ∃ W2, W1.alloc (.cells #[] 39) = W2 := ⟨_, rfl⟩
  rw [hW] at HOS0 ⊢; clear hW
  generalize Value.slice (some ⟨W1.heap.size, 0, none⟩) 0 0 = rv0 at *
  go_wp2_with fail
  go_loopg [6, 7, 8] N (fun gh s6 s7 s8 wx => ∃ (j : Nat) (nw : Int) (b : Ky) (ob : Option Addr) (rv : Value) (done : List Ac), j ≤ N ∧ j ≤ 80 ∧ gh = N - j ∧ s6 = .int .i64 nw ∧ rv = s7 ∧ s8 = .int .i64 (j : Int) ∧ 0 ≤ nw ∧ nw ≤ 3 * (j : Int) ∧ done.length ≤ j ∧ OI c b nw done ∧ OS w wx w.heap.size q c b ob rv done)
  case atStart => exact ⟨0, 0, b0, o0, _, [], Nat.zero_le _, by omega, rfl, rfl, rfl, rfl, Int.le_refl _, by omega, Nat.le_refl _, HI0.out, HOS0.out⟩
  case round =>
    obtain ⟨j, nw, b, ob, rv, done, hj, hj80, hg, rfl, rfl, rfl, hn0, hn3, hdl, hoi, hos⟩ := hrel
    have HG := Lib.hid hg; have HOI := Lib.hid hoi; have HOS := Lib.hid hos; have HDL := Lib.hid hdl; clear hg hoi hos hdl HOS0 HI0
    have b4 : (0 : Int) ≤ (j : Int) := by omega
    by_cases hlt : j < N ∧ j < 80
    · obtain ⟨hlN, hl80⟩ := hlt
      have b3 : (j : Int) < (N : Int) := by omega
      have b6 : (j : Int) < 80 := by omega
      have hjl : j < acts.length := by rw [HN.out]; exact hlN
      obtain ⟨x, hz⟩ : ∃ z, acts[j]? = some z := ⟨_, List.getElem?_eq_getElem hjl⟩
      have HX := Lib.hid (HOK.out x (List.mem_of_getElem? hz))
      obtain ⟨bb, off, rfl, hbb, hr⟩ := (HA.out.keep HOS.out.bel).row hz
      have HR := Lib.hid hr
      obtain ⟨nt, hnt, hn1, hn2⟩ := tick_num (x := x.now) (m := 4) hn0 (by omega) (by omega) (by omega)
      have HNT := Lib.hid (show 0 ≤ nt ∧ nt ≤ 3 * ((j : Int) + 1) ∧ nw ≤ nt by omega)
      have HJ := Lib.hid (show j < N ∧ j < 80 from ⟨hlN, hl80⟩)
      clear hr hbb hz hjl hn0 hn3 hn1 hn2 hlN hl80 hj hj80
      go_upto_region 10 with (first | ((with_reducible apply wpList_load_ac (h := HR.out)); exact rfl; exact rfl; exact rfl) | ((with_reducible apply wpList_store_acnew (c := x)); exact rfl; exact rfl; exact rfl; exact rfl))
      have hn := below_new wr (.cells x.cells 39)
      have hka : AcAt (wr.alloc (.cells x.cells 39)) wr.heap.size x := At.new wr 39 _
      obtain ⟨W3, hW⟩ : ∃ W3, wr.alloc (.cells x.cells 39) = W3 := ⟨_, rfl⟩
      rw [hW] at hn hka ⊢; clear hW
      have HIS0 : Hid (IS w W3 w.heap.size q wr.heap.size c b ob rv done x) := Lib.hid ⟨HOS.out.step hn, hka⟩
      clear hn hka HOS HR b3 b6
      generalize wr.heap.size = gx at *
      have kx1 := HIS0.out.kx.k1; have kx4 := HIS0.out.kx.k4
      by_cases hl40 : (40 : Int) < (x.body.size : Int)
      · clear hnt
        go_wp2_with fail
        go_ret
        exact ⟨rfl, HIS0.out.os.bel⟩
      have HSZ : Hid (x.body.size ≤ 40) := Lib.hid (by omega)
      go_upto_region 13 with fail
      rw [hnt]
      clear hnt kx1 kx4 hl40
      have HOI := Lib.hid (HOI.out.tick HNT.out.2.2)
      obtain ⟨s1, v1, hr1⟩ : ∃ s1 v1, lookK b nt x.who x.key x.body = (s1, v1) := ⟨_, _, rfl⟩
      have cl := look_any (b := b) nt x.who x.key x.body HX.out.2.2.1 HIS0.out.os.at_
      rw [hr1] at cl
      have CL := Lib.hid cl
      have HR1 := Lib.hid hr1; clear hr1 cl
      have kx2 := HIS0.out.kx.k2; have kx3 := HIS0.out.kx.k3; have kx4 := HIS0.out.kx.k4
      have HBK := Lib.hid HIS0.out.os.bk
      go_upto_region 14 with (first | ((with_reducible apply wpList_load_ky (h := HBK.out)); exact rfl; exact rfl; exact rfl) | (go_at_call 14; (with_reducible refine CL.out.mono ?_); rintro e W4 ⟨rfl, hv1⟩))
      have HIS := Lib.hid (HIS0.out.step hv1)
      clear HIS0 HBK CL hv1 kx2 kx3 kx4
      obtain ⟨OD, cD, hrv⟩ : ∃ O cc, rv = .slice O done.length cc := by
        obtain ⟨O, cc, e, _⟩ := HIS.out.os.row.rd; exact ⟨O, cc, e⟩
      subst hrv
      obtain ⟨M, hM⟩ : ∃ M, done.length = M := ⟨_, rfl⟩
      rw [hM] at HIS HDL ⊢
      have HM := Lib.hid hM; clear hM
      go_wp2_with fail
      go_loopg [12] M (fun gh2 s12 wx => ∃ (k : Nat), k ≤ M ∧ gh2 = M - k ∧ s12 = .int .i64 (k : Int) ∧ IS w wx w.heap.size q gx c b ob (.slice OD M cD) done x)
      case atStart => exact ⟨0, Nat.zero_le _, rfl, rfl, HIS.out⟩
      case round =>
        obtain ⟨k, hk, hg2, rfl, his⟩ := hrel
        have HG2 := Lib.hid hg2; have HIS := Lib.hid his; clear hg2 his
        have c4 : (0 : Int) ≤ (k : Int) := by omega
        by_cases hkl : k < M
        · have c3 : (k : Int) < (M : Int) := by omega
          have hkd : k < done.length := by rw [HM.out]; exact hkl
          obtain ⟨d, hd⟩ : ∃ d, done[k]? = some d := ⟨_, List.getElem?_eq_getElem hkd⟩
          have HDN := Lib.hid (HOI.out.dn d (List.mem_of_getElem? hd))
          obtain ⟨b2, off2, rfl, hb2, hrd⟩ := rowD_at HIS.out.os.row.rd hd
          have HRD := Lib.hid hrd
          have HK := Lib.hid hkl
          obtain ⟨wi, hwi⟩ : ∃ wi, wr = wi := ⟨_, rfl⟩
          rw [hwi] at HIS HRD ⊢
          clear hkd hd hb2 hrd hkl hk hwi
          go_upto_region 18 with (first | ((with_reducible apply wpList_load_ac (h := HRD.out)); exact rfl; exact rfl; exact rfl) | ((with_reducible apply wpList_store_acnew (c := d)); exact rfl; exact rfl; exact rfl; exact rfl))
          have hn := below_new wi (.cells d.cells 39)
          have hkd : AcAt (wi.alloc (.cells d.cells 39)) wi.heap.size d := At.new wi 39 _
          obtain ⟨W5, hW⟩ : ∃ W5, wi.alloc (.cells d.cells 39) = W5 := ⟨_, rfl⟩
          rw [hW] at hn hkd ⊢; clear hW
          have HI5 := Lib.hid (HIS.out.step hn)
          have HKD := Lib.hid hkd
          clear hn hkd HIS HRD c3
          generalize wi.heap.size = gd at *
          have kx2 := HI5.out.kx.k2; have kx3 := HI5.out.kx.k3
          have kd2 := HKD.out.k2; have kd3 := HKD.out.k3
          by_cases h1 : d.who = x.who
          · have f1 : (d.who != x.who) = false := by simpa using h1
            have f2 : (d.who == x.who) = true := by simpa using h1
            have f3 : decide (d.who = x.who) = true := by simpa using h1
            by_cases h2 : d.key = x.key
            · have f4 : (d.key != x.key) = false := by simpa using h2
              have f5 : (d.key == x.key) = true := by simpa using h2
              have f6 : decide (d.key = x.key) = true := by simpa using h2
              have hbc := (HOI.out.kc.resolve_right (fun h => by have := HDN.out.ok; rw [h.1] at this; cases this)).2
              have HLK := Lib.hid (HDN.out.look hbc (by have := HNT.out; have := HJ.out; omega) h1 h2)
              rw [HR1.out] at HLK
              clear h1 h2 hbc
              go_upto_region 19 with fail
              clear f1 f2 f3 f4 f5 f6 kd2 kd3 kx2
              have HCA := Lib.hid HI5.out.os.cat
              have CG := Lib.hid (fun W => isGood_any c x.key nt HX.out.2.2.1 W)
              obtain ⟨gb, hgb⟩ : ∃ gb, goodK c x.key nt = gb := ⟨_, rfl⟩
              rw [hgb] at CG HLK
              clear hgb
              go_upto_region 20 with (first | ((with_reducible apply wpList_load_cat (h := HCA.out)); exact rfl; exact rfl; exact rfl) | (go_at_call 10; (with_reducible refine (CG.out _).mono ?_); rintro e W6 ⟨rfl, hv6⟩))
              have HI6 := Lib.hid (HI5.out.step hv6)
              have kd4 := AcAt.k4 (At.step HKD.out hv6)
              have kx4 := HI6.out.kx.k4
              have HDS := Lib.hid HDN.out.sz
              clear HI5 HKD HCA CG hv6 kx3 HDN HR1 HOI HX HSZ HNT HOK HA
              rcases HLK.out with ⟨rfl, hlk⟩ | ⟨rfl, hlk⟩
              · by_cases hbd : d.body = x.body
                · rw [if_pos hbd] at hlk
                  injection hlk with e1 e2
                  subst e1 e2
                  rw [← hbd] at kx4
                  clear hbd HLK
                  as_aux_lemma =>
                  go_wp2_with ((with_reducible apply wpList_bang (hs := HDS.out)); exact rfl; exact rfl; exact rfl)
                  go_roundg (M - (k + 1))
                  case measure => have := HG2.out; have := HK.out; omega
                  case rel => exact ⟨k + 1, by have := HK.out; omega, rfl, (by have := HK.out; have := HDL.out; have := HJ.out; rw [IntWalk.wrap64_in _ (by omega)]; rfl), HI6.out⟩
                · rw [if_neg hbd] at hlk
                  injection hlk with e1 e2
                  subst e1 e2
                  have t1 : (d.body.toList == x.body.toList) = false := text_ne hbd
                  clear hbd HLK
                  as_aux_lemma =>
                  go_wp2_with fail
                  go_roundg (M - (k + 1))
                  case measure => have := HG2.out; have := HK.out; omega
                  case rel => exact ⟨k + 1, by have := HK.out; omega, rfl, (by have := HK.out; have := HDL.out; have := HJ.out; rw [IntWalk.wrap64_in _ (by omega)]; rfl), HI6.out⟩
              · injection hlk with e1 e2
                subst e1 e2
                clear HLK kd4 kx4
                as_aux_lemma =>
                go_wp2_with fail
                go_roundg (M - (k + 1))
                case measure => have := HG2.out; have := HK.out; omega
                case rel => exact ⟨k + 1, by have := HK.out; omega, rfl, (by have := HK.out; have := HDL.out; have := HJ.out; rw [IntWalk.wrap64_in _ (by omega)]; rfl), HI6.out⟩
            · have f4 : (d.key != x.key) = true := by simpa using h2
              have f5 : (d.key == x.key) = false := by simpa using h2
              have f6 : decide (d.key = x.key) = false := by simpa using h2
              clear h1 h2
              go_wp2_with fail
              go_roundg (M - (k + 1))
              case measure => have := HG2.out; have := HK.out; omega
              case rel => exact ⟨k + 1, by have := HK.out; omega, rfl, (by have := HK.out; have := HDL.out; have := HJ.out; rw [IntWalk.wrap64_in _ (by omega)]; rfl), HI5.out⟩
          · have f1 : (d.who != x.who) = true := by simpa using h1
            have f2 : (d.who == x.who) = false := by simpa using h1
            have f3 : decide (d.who = x.who) = false := by simpa using h1
            clear h1 kd3 kx3
            go_wp2_with fail
            go_roundg (M - (k + 1))
            case measure => have := HG2.out; have := HK.out; omega
            case rel => exact ⟨k + 1, by have := HK.out; omega, rfl, (by have := HK.out; have := HDL.out; have := HJ.out; rw [IntWalk.wrap64_in _ (by omega)]; rfl), HI5.out⟩
        · obtain rfl : k = M := by omega
          have c3 : ¬ (k : Int) < (k : Int) := by omega
          clear hk hkl HG2
          obtain ⟨wi, hwi⟩ : ∃ wi, wr = wi := ⟨_, rfl⟩
          rw [hwi] at HIS ⊢
          clear hwi
          go_upto_region 22 with fail
          clear c3
          have kx2 := HIS.out.kx.k2; have kx3 := HIS.out.kx.k3; have kx4 := HIS.out.kx.k4
          obtain ⟨m, ee, hde⟩ : ∃ m ee, withK b nt x.who x.key x.body (x.body ++ bang) = (m, ee) := ⟨_, _, rfl⟩
          have cw := keysWith_any nt x.who x.key x.body (x.body ++ bang) HX.out.2.2.1 HIS.out.os.at_ HOI.out.wf.fit
          rw [hde] at cw
          have CW := Lib.hid cw
          have HDE := Lib.hid hde; clear hde cw
          have HBK := Lib.hid HIS.out.os.bk
          go_upto_region 23 with (first | ((with_reducible apply wpList_load_ky (h := HBK.out)); exact rfl; exact rfl; exact rfl) | ((with_reducible apply wpList_bang (hs := HSZ.out)); exact rfl; exact rfl; exact rfl) | (go_at_call 16; (with_reducible refine CW.out.mono ?_); rintro e V2 ⟨om, rfl, ha2, hv2⟩) | ((with_reducible apply wpList_store_kynew (b := m) (s := om)); exact rfl; exact rfl; exact rfl; exact rfl))
          have hn := below_new V2 (.cells (m.cells om) 31)
          have HIS2 := Lib.hid ((HIS.out.step hv2).step hn)
          have HKM := Lib.hid (KyAt.new V2 m om)
          have HYM := Lib.hid (YAt.step ha2 hn)
          obtain ⟨V3, hV⟩ : ∃ V3, V2.alloc (.cells (m.cells om) 31) = V3 := ⟨_, rfl⟩
          rw [hV] at HIS2 HKM HYM ⊢; clear hV hn ha2 hv2 HIS HBK CW kx2 kx3 kx4
          generalize V2.heap.size = qm at *
          have HCR := Lib.hid (cnt_room nt HOI.out.kc HOI.out.wf.fit HIS2.out.os.at_)
          obtain ⟨P, hP⟩ : ∃ P, (cnt nt b.l).length = P := ⟨_, rfl⟩
          rw [hP] at HCR
          have CT : Hid (∀ W, YAt W b ob → Calls Try.prog 19 #[b.V ob, .int .i64 nt] W fun e w' => e = .returned (.int .i64 (P : Int)) ∧ Below W.heap.size W w') := Lib.hid (fun W h => count_len nt h (by rw [hP]))
          have HP := Lib.hid hP; clear hP
          rcases withK_ok HDE.out with ⟨rfl, hm, hl⟩ | ⟨rfl, hm, hl⟩
          · obtain ⟨v1e, hoi2, hQ, hP5, h64⟩ := once_new HOI.out HX.out.2.2.1 HSZ.out hm HR1.out hl HP.out HCR.out
            subst v1e
            have HOI2 := Lib.hid hoi2
            have CU : Hid (∀ W, YAt W m om → Calls Try.prog 19 #[m.V om, .int .i64 nt] W fun e w' => e = .returned (.int .i64 ((P : Int) + 1)) ∧ Below W.heap.size W w') := Lib.hid (fun W h => count_len nt h hQ)
            have d4 : decide (c.get 5 < (P : Int)) = false := by rw [decide_eq_false_iff_not]; omega
            have d5 : decide (c.get 5 < (P : Int) + 1) = false := by rw [decide_eq_false_iff_not]; omega
            have hw1 : IntKind.i64.wrap ((P : Int) + 1) = (P : Int) + 1 := IntWalk.i64_in _ (by omega)
            have D4 := Lib.hid d4; have D5 := Lib.hid d5; have HW1 := Lib.hid hw1
            clear hm hl hP5 h64 hQ d4 d5 hw1 hoi2 HDE HCR HR1 HOI HX HSZ HP
            refine AnyOrder.region_kinds2 19 [.eq (.int .i64 0), .eq (.bool true), .eq (.int .i64 1), .eq (.bool true), .eq (.bool false), .eq (.bool false), .eq (b.V ob), .eq (.int .i64 nt), .eq (.int .i64 (P : Int)), .eq (ptr w.heap.size 5), .eq (.int .i64 (c.get 5)), .eq (.bool false), .eq (.bool false), .eq (undef), .eq (undef), .eq (undef), .eq (undef), .eq (.bool false), .eq (.bool false)] (fun wx => Below V3.heap.size V3 wx) (by kernel_rfl) (by kernel_rfl) rfl (by kernel_rfl) (below_drewN (Below.refl _ _) 1) (fun p _ _ hp => by simp at hp) ?_ ?_
            · intro i o listed a1 w2 hin ho st hl hdep
              match i, ho with
              | 0, ho => (injection ho with ho; subst ho; have ec : ∀ v, a1.eval (.const v) = v := fun _ => rfl; have ef : ∀ f, a1.eval (.func f) = .func (.func f) #[] #[] := fun _ => rfl; have e0 : a1.eval (.tmp 16) = .int .i64 0 := st.old hl 16 (by kernel_rfl); exact AnyOrder.step_value rfl (AnyOrder.wanted_none rfl) (.int .i64 0) (AnyOrder.run_move e0) st.inv (Below.refl _ _) rfl)
              | 1, ho => (injection ho with ho; subst ho; have ec : ∀ v, a1.eval (.const v) = v := fun _ => rfl; have ef : ∀ f, a1.eval (.func f) = .func (.func f) #[] #[] := fun _ => rfl; have e0 : a1.eval (.tmp 150) = .int .i64 0 := st.done 0 150 (hdep ⟨0, .data⟩ (by simp) rfl) rfl; exact AnyOrder.step_value rfl (AnyOrder.wanted_none rfl) (.bool true) (by generalize a1.eval = ρ at ec ef e0 ⊢; simp [execOp, ec, ef, e0, IntWalk.i64_left, go_sem]) st.inv (Below.refl _ _) rfl)
              | 2, ho => (injection ho with ho; subst ho; have ec : ∀ v, a1.eval (.const v) = v := fun _ => rfl; have ef : ∀ f, a1.eval (.func f) = .func (.func f) #[] #[] := fun _ => rfl; have e0 : a1.eval (.tmp 11) = .int .i64 1 := st.old hl 11 (by kernel_rfl); exact AnyOrder.step_value rfl (AnyOrder.wanted_none rfl) (.int .i64 1) (AnyOrder.run_move e0) st.inv (Below.refl _ _) rfl)
              | 3, ho => (injection ho with ho; subst ho; have ec : ∀ v, a1.eval (.const v) = v := fun _ => rfl; have ef : ∀ f, a1.eval (.func f) = .func (.func f) #[] #[] := fun _ => rfl; have e0 : a1.eval (.tmp 152) = .int .i64 1 := st.done 2 152 (hdep ⟨2, .data⟩ (by simp) rfl) rfl; exact AnyOrder.step_value rfl (AnyOrder.wanted_none rfl) (.bool true) (by generalize a1.eval = ρ at ec ef e0 ⊢; simp [execOp, ec, ef, e0, IntWalk.i64_left, go_sem]) st.inv (Below.refl _ _) rfl)
              | 4, ho => (injection ho with ho; subst ho; have ec : ∀ v, a1.eval (.const v) = v := fun _ => rfl; have ef : ∀ f, a1.eval (.func f) = .func (.func f) #[] #[] := fun _ => rfl; have e0 : a1.eval (.tmp 151) = .bool true := st.done 1 151 (hdep ⟨1, .data⟩ (by simp) rfl) rfl; have e1 : a1.eval (.tmp 153) = .bool true := st.done 3 153 (hdep ⟨3, .data⟩ (by simp) rfl) rfl; exact AnyOrder.step_value rfl (AnyOrder.wanted_none rfl) (.bool false) (by generalize a1.eval = ρ at ec ef e0 e1 ⊢; simp [execOp, ec, ef, e0, e1, IntWalk.i64_left, go_sem]) st.inv (Below.refl _ _) rfl)
              | 5, ho => (injection ho with ho; subst ho; have ec : ∀ v, a1.eval (.const v) = v := fun _ => rfl; have ef : ∀ f, a1.eval (.func f) = .func (.func f) #[] #[] := fun _ => rfl; have e0 : a1.eval (.tmp 154) = .bool false := st.done 4 154 (hdep ⟨4, .data⟩ (by simp) rfl) rfl; exact AnyOrder.step_value rfl (AnyOrder.wanted_none rfl) (.bool false) (AnyOrder.run_move e0) st.inv (Below.refl _ _) rfl)
              | 6, ho => (injection ho with ho; subst ho; have ec : ∀ v, a1.eval (.const v) = v := fun _ => rfl; have ef : ∀ f, a1.eval (.func f) = .func (.func f) #[] #[] := fun _ => rfl; have e0 : a1.eval (.tmp 5) = ptr q 0 := st.old hl 5 (by kernel_rfl); have eg : a1.eval (.tmp 155) = .bool false := st.done 5 155 (hdep ⟨5, .guard⟩ (by simp) rfl) rfl; exact AnyOrder.step_value rfl ((AnyOrder.wanted_of rfl rfl eg).trans rfl) (b.V ob) (run_load_ky e0 (At.step HIS2.out.os.bk st.inv)) st.inv (Below.refl _ _) rfl)
              | 7, ho => (injection ho with ho; subst ho; have ec : ∀ v, a1.eval (.const v) = v := fun _ => rfl; have ef : ∀ f, a1.eval (.func f) = .func (.func f) #[] #[] := fun _ => rfl; have e0 : a1.eval (.tmp 6) = .int .i64 nt := st.old hl 6 (by kernel_rfl); have eg : a1.eval (.tmp 155) = .bool false := st.done 5 155 (hdep ⟨5, .guard⟩ (by simp) rfl) rfl; exact AnyOrder.step_value rfl ((AnyOrder.wanted_of rfl rfl eg).trans rfl) (.int .i64 nt) (AnyOrder.run_move e0) st.inv (Below.refl _ _) rfl)
              | 8, ho => (injection ho with ho; subst ho; have ec : ∀ v, a1.eval (.const v) = v := fun _ => rfl; have ef : ∀ f, a1.eval (.func f) = .func (.func f) #[] #[] := fun _ => rfl; have e0 : a1.eval (.tmp 156) = b.V ob := st.done 6 156 (hdep ⟨6, .data⟩ (by simp) rfl) rfl; have e1 : a1.eval (.tmp 157) = .int .i64 nt := st.done 7 157 (hdep ⟨7, .data⟩ (by simp) rfl) rfl; have eg : a1.eval (.tmp 155) = .bool false := st.done 5 155 (hdep ⟨5, .chain⟩ (by simp) rfl) rfl; exact AnyOrder.step_call rfl ((AnyOrder.wanted_of rfl rfl eg).trans rfl) 19 #[b.V ob, .int .i64 nt] (by generalize a1.eval = ρ at ec ef e0 e1 ⊢; simp [execOp, ec, ef, e0, e1, go_sem]) ((CT.out _ (HIS2.out.os.at_.step st.inv)).mono (fun e w3 h => by obtain ⟨rfl, hb⟩ := h; exact ⟨_, rfl, st.inv.trans (hb.mono st.inv.size), hb, rfl⟩)))
              | 9, ho => (injection ho with ho; subst ho; have ec : ∀ v, a1.eval (.const v) = v := fun _ => rfl; have ef : ∀ f, a1.eval (.func f) = .func (.func f) #[] #[] := fun _ => rfl; have e0 : a1.eval (.tmp 2) = ptr w.heap.size 0 := st.old hl 2 (by kernel_rfl); have eg : a1.eval (.tmp 155) = .bool false := st.done 5 155 (hdep ⟨5, .guard⟩ (by simp) rfl) rfl; exact AnyOrder.step_value rfl ((AnyOrder.wanted_of rfl rfl eg).trans rfl) (ptr w.heap.size 5) (by generalize a1.eval = ρ at ec ef e0 ⊢; simp [execOp, ec, ef, e0, IntWalk.i64_left, go_sem]) st.inv (Below.refl _ _) rfl)
              | 10, ho => (injection ho with ho; subst ho; have ec : ∀ v, a1.eval (.const v) = v := fun _ => rfl; have ef : ∀ f, a1.eval (.func f) = .func (.func f) #[] #[] := fun _ => rfl; have e0 : a1.eval (.tmp 159) = ptr w.heap.size 5 := st.done 9 159 (hdep ⟨9, .data⟩ (by simp) rfl) rfl; have eg : a1.eval (.tmp 155) = .bool false := st.done 5 155 (hdep ⟨5, .guard⟩ (by simp) rfl) rfl; exact AnyOrder.step_value rfl ((AnyOrder.wanted_of rfl rfl eg).trans rfl) (.int .i64 (c.get 5)) (by have hk := CAt.get (At.step HIS2.out.os.cat st.inv) (k := 5) (by decide); generalize a1.eval = ρ at ec ef e0 ⊢; simp [execOp, e0, go_sem, hk]) st.inv (Below.refl _ _) rfl)
              | 11, ho => (injection ho with ho; subst ho; have ec : ∀ v, a1.eval (.const v) = v := fun _ => rfl; have ef : ∀ f, a1.eval (.func f) = .func (.func f) #[] #[] := fun _ => rfl; have e0 : a1.eval (.tmp 158) = .int .i64 (P : Int) := st.done 8 158 (hdep ⟨8, .data⟩ (by simp) rfl) rfl; have e1 : a1.eval (.tmp 160) = .int .i64 (c.get 5) := st.done 10 160 (hdep ⟨10, .data⟩ (by simp) rfl) rfl; have eg : a1.eval (.tmp 155) = .bool false := st.done 5 155 (hdep ⟨5, .guard⟩ (by simp) rfl) rfl; exact AnyOrder.step_value rfl ((AnyOrder.wanted_of rfl rfl eg).trans rfl) (.bool false) (by generalize a1.eval = ρ at ec ef e0 e1 ⊢; simp [execOp, ec, ef, e0, e1, IntWalk.i64_left, D4.out, go_sem]) st.inv (Below.refl _ _) rfl)
              | 12, ho => (injection ho with ho; subst ho; have ec : ∀ v, a1.eval (.const v) = v := fun _ => rfl; have ef : ∀ f, a1.eval (.func f) = .func (.func f) #[] #[] := fun _ => rfl; have e0 : a1.eval (.tmp 161) = .bool false := st.done 11 161 (hdep ⟨11, .data⟩ (by simp) rfl) rfl; have eg : a1.eval (.tmp 155) = .bool false := st.done 5 155 (hdep ⟨5, .guard⟩ (by simp) rfl) rfl; exact AnyOrder.step_value rfl ((AnyOrder.wanted_of rfl rfl eg).trans rfl) (.bool false) (AnyOrder.run_move e0) st.inv (Below.refl _ _) rfl)
              | 13, ho => (injection ho with ho; subst ho; have ec : ∀ v, a1.eval (.const v) = v := fun _ => rfl; have ef : ∀ f, a1.eval (.func f) = .func (.func f) #[] #[] := fun _ => rfl; have eg : a1.eval (.tmp 162) = .bool false := st.done 12 162 (hdep ⟨12, .guard⟩ (by simp) rfl) rfl; exact AnyOrder.step_skip rfl ((AnyOrder.wanted_of rfl rfl eg).trans rfl) st.inv rfl)
              | 14, ho => (injection ho with ho; subst ho; have ec : ∀ v, a1.eval (.const v) = v := fun _ => rfl; have ef : ∀ f, a1.eval (.func f) = .func (.func f) #[] #[] := fun _ => rfl; have eg : a1.eval (.tmp 162) = .bool false := st.done 12 162 (hdep ⟨12, .guard⟩ (by simp) rfl) rfl; exact AnyOrder.step_skip rfl ((AnyOrder.wanted_of rfl rfl eg).trans rfl) st.inv rfl)
              | 15, ho => (injection ho with ho; subst ho; have ec : ∀ v, a1.eval (.const v) = v := fun _ => rfl; have ef : ∀ f, a1.eval (.func f) = .func (.func f) #[] #[] := fun _ => rfl; have eg : a1.eval (.tmp 162) = .bool false := st.done 12 162 (hdep ⟨12, .chain⟩ (by simp) rfl) rfl; exact AnyOrder.step_skip rfl ((AnyOrder.wanted_of rfl rfl eg).trans rfl) st.inv rfl)
              | 16, ho => (injection ho with ho; subst ho; have ec : ∀ v, a1.eval (.const v) = v := fun _ => rfl; have ef : ∀ f, a1.eval (.func f) = .func (.func f) #[] #[] := fun _ => rfl; have eg : a1.eval (.tmp 162) = .bool false := st.done 12 162 (hdep ⟨12, .guard⟩ (by simp) rfl) rfl; exact AnyOrder.step_skip rfl ((AnyOrder.wanted_of rfl rfl eg).trans rfl) st.inv rfl)
              | 17, ho => (injection ho with ho; subst ho; have ec : ∀ v, a1.eval (.const v) = v := fun _ => rfl; have ef : ∀ f, a1.eval (.func f) = .func (.func f) #[] #[] := fun _ => rfl; have e0 : a1.eval (.tmp 162) = .bool false := st.done 12 162 (hdep ⟨12, .data⟩ (by simp) rfl) rfl; have e1 : a1.eval (.tmp 166) = undef := st.done 16 166 (hdep ⟨16, .data⟩ (by simp) rfl) rfl; have eg : a1.eval (.tmp 155) = .bool false := st.done 5 155 (hdep ⟨5, .guard⟩ (by simp) rfl) rfl; exact AnyOrder.step_value rfl ((AnyOrder.wanted_of rfl rfl eg).trans rfl) (.bool false) (by generalize a1.eval = ρ at ec ef e0 e1 ⊢; simp [execOp, ec, ef, e0, e1, IntWalk.i64_left, go_sem]) st.inv (Below.refl _ _) rfl)
              | 18, ho => (injection ho with ho; subst ho; have ec : ∀ v, a1.eval (.const v) = v := fun _ => rfl; have ef : ∀ f, a1.eval (.func f) = .func (.func f) #[] #[] := fun _ => rfl; have e0 : a1.eval (.tmp 155) = .bool false := st.done 5 155 (hdep ⟨5, .data⟩ (by simp) rfl) rfl; have e1 : a1.eval (.tmp 167) = .bool false := st.done 17 167 (hdep ⟨17, .data⟩ (by simp) rfl) rfl; exact AnyOrder.step_value rfl (AnyOrder.wanted_none rfl) (.bool false) (by generalize a1.eval = ρ at ec ef e0 e1 ⊢; simp [execOp, ec, ef, e0, e1, IntWalk.i64_left, go_sem]) st.inv (Below.refl _ _) rfl)
              | n + 19, ho => exact absurd hin (by omega)
            · intro W6 hJ
              simp only [AnyOrder.finK, List.take_succ_cons, List.take_zero, List.drop_succ_cons, List.drop_zero, Act.put, List.setIfInBounds_toArray, List.set_cons_zero, List.set_cons_succ]
              have HIS3 := Lib.hid (HIS2.out.step hJ); have HKM3 : Hid (KyAt W6 qm m om) := Lib.hid (At.step HKM.out hJ); have HYM3 := Lib.hid (HYM.out.step hJ)
              clear HIS2 HKM HYM hJ
              go_upto_region 26 with fail
              refine AnyOrder.region_kinds2 16 [.eq (m.V om), .eq (.int .i64 nt), .eq (.int .i64 ((P : Int) + 1)), .eq (b.V ob), .eq (.int .i64 nt), .eq (.int .i64 (P : Int)), .eq (.int .i64 ((P : Int) + 1)), .eq (.bool false), .eq (.bool false), .eq (m.V om), .eq (.int .i64 nt), .eq (.int .i64 ((P : Int) + 1)), .eq (ptr w.heap.size 5), .eq (.int .i64 (c.get 5)), .eq (.bool false), .eq (.bool false)] (fun wx => Below W6.heap.size W6 wx) (by kernel_rfl) (by kernel_rfl) rfl (by kernel_rfl) (below_drewN (Below.refl _ _) 1) (fun p _ _ hp => by simp at hp) ?_ ?_
              · intro i o listed a1 w2 hin ho st hl hdep
                match i, ho with
                | 0, ho => (injection ho with ho; subst ho; have ec : ∀ v, a1.eval (.const v) = v := fun _ => rfl; have ef : ∀ f, a1.eval (.func f) = .func (.func f) #[] #[] := fun _ => rfl; have e0 : a1.eval (.tmp 15) = ptr qm 0 := st.old hl 15 (by kernel_rfl); exact AnyOrder.step_value rfl (AnyOrder.wanted_none rfl) (m.V om) (run_load_ky e0 (At.step HKM3.out st.inv)) st.inv (Below.refl _ _) rfl)
                | 1, ho => (injection ho with ho; subst ho; have ec : ∀ v, a1.eval (.const v) = v := fun _ => rfl; have ef : ∀ f, a1.eval (.func f) = .func (.func f) #[] #[] := fun _ => rfl; have e0 : a1.eval (.tmp 6) = .int .i64 nt := st.old hl 6 (by kernel_rfl); exact AnyOrder.step_value rfl (AnyOrder.wanted_none rfl) (.int .i64 nt) (AnyOrder.run_move e0) st.inv (Below.refl _ _) rfl)
                | 2, ho => (injection ho with ho; subst ho; have ec : ∀ v, a1.eval (.const v) = v := fun _ => rfl; have ef : ∀ f, a1.eval (.func f) = .func (.func f) #[] #[] := fun _ => rfl; have e0 : a1.eval (.tmp 171) = m.V om := st.done 0 171 (hdep ⟨0, .data⟩ (by simp) rfl) rfl; have e1 : a1.eval (.tmp 172) = .int .i64 nt := st.done 1 172 (hdep ⟨1, .data⟩ (by simp) rfl) rfl; exact AnyOrder.step_call rfl (AnyOrder.wanted_none rfl) 19 #[m.V om, .int .i64 nt] (by generalize a1.eval = ρ at ec ef e0 e1 ⊢; simp [execOp, ec, ef, e0, e1, go_sem]) ((CU.out _ (HYM3.out.step st.inv)).mono (fun e w3 h => by obtain ⟨rfl, hb⟩ := h; exact ⟨_, rfl, st.inv.trans (hb.mono st.inv.size), hb, rfl⟩)))
                | 3, ho => (injection ho with ho; subst ho; have ec : ∀ v, a1.eval (.const v) = v := fun _ => rfl; have ef : ∀ f, a1.eval (.func f) = .func (.func f) #[] #[] := fun _ => rfl; have e0 : a1.eval (.tmp 5) = ptr q 0 := st.old hl 5 (by kernel_rfl); exact AnyOrder.step_value rfl (AnyOrder.wanted_none rfl) (b.V ob) (run_load_ky e0 (At.step HIS3.out.os.bk st.inv)) st.inv (Below.refl _ _) rfl)
                | 4, ho => (injection ho with ho; subst ho; have ec : ∀ v, a1.eval (.const v) = v := fun _ => rfl; have ef : ∀ f, a1.eval (.func f) = .func (.func f) #[] #[] := fun _ => rfl; have e0 : a1.eval (.tmp 6) = .int .i64 nt := st.old hl 6 (by kernel_rfl); exact AnyOrder.step_value rfl (AnyOrder.wanted_none rfl) (.int .i64 nt) (AnyOrder.run_move e0) st.inv (Below.refl _ _) rfl)
                | 5, ho => (injection ho with ho; subst ho; have ec : ∀ v, a1.eval (.const v) = v := fun _ => rfl; have ef : ∀ f, a1.eval (.func f) = .func (.func f) #[] #[] := fun _ => rfl; have e0 : a1.eval (.tmp 174) = b.V ob := st.done 3 174 (hdep ⟨3, .data⟩ (by simp) rfl) rfl; have e1 : a1.eval (.tmp 175) = .int .i64 nt := st.done 4 175 (hdep ⟨4, .data⟩ (by simp) rfl) rfl; exact AnyOrder.step_call rfl (AnyOrder.wanted_none rfl) 19 #[b.V ob, .int .i64 nt] (by generalize a1.eval = ρ at ec ef e0 e1 ⊢; simp [execOp, ec, ef, e0, e1, go_sem]) ((CT.out _ (HIS3.out.os.at_.step st.inv)).mono (fun e w3 h => by obtain ⟨rfl, hb⟩ := h; exact ⟨_, rfl, st.inv.trans (hb.mono st.inv.size), hb, rfl⟩)))
                | 6, ho => (injection ho with ho; subst ho; have ec : ∀ v, a1.eval (.const v) = v := fun _ => rfl; have ef : ∀ f, a1.eval (.func f) = .func (.func f) #[] #[] := fun _ => rfl; have e0 : a1.eval (.tmp 176) = .int .i64 (P : Int) := st.done 5 176 (hdep ⟨5, .data⟩ (by simp) rfl) rfl; exact AnyOrder.step_value rfl (AnyOrder.wanted_none rfl) (.int .i64 ((P : Int) + 1)) (by generalize a1.eval = ρ at ec ef e0 ⊢; simp [execOp, ec, ef, e0, IntWalk.i64_left, HW1.out, go_sem]) st.inv (Below.refl _ _) rfl)
                | 7, ho => (injection ho with ho; subst ho; have ec : ∀ v, a1.eval (.const v) = v := fun _ => rfl; have ef : ∀ f, a1.eval (.func f) = .func (.func f) #[] #[] := fun _ => rfl; have e0 : a1.eval (.tmp 173) = .int .i64 ((P : Int) + 1) := st.done 2 173 (hdep ⟨2, .data⟩ (by simp) rfl) rfl; have e1 : a1.eval (.tmp 177) = .int .i64 ((P : Int) + 1) := st.done 6 177 (hdep ⟨6, .data⟩ (by simp) rfl) rfl; exact AnyOrder.step_value rfl (AnyOrder.wanted_none rfl) (.bool false) (by generalize a1.eval = ρ at ec ef e0 e1 ⊢; simp [execOp, ec, ef, e0, e1, IntWalk.i64_left, go_sem]) st.inv (Below.refl _ _) rfl)
                | 8, ho => (injection ho with ho; subst ho; have ec : ∀ v, a1.eval (.const v) = v := fun _ => rfl; have ef : ∀ f, a1.eval (.func f) = .func (.func f) #[] #[] := fun _ => rfl; have e0 : a1.eval (.tmp 178) = .bool false := st.done 7 178 (hdep ⟨7, .data⟩ (by simp) rfl) rfl; exact AnyOrder.step_value rfl (AnyOrder.wanted_none rfl) (.bool false) (AnyOrder.run_move e0) st.inv (Below.refl _ _) rfl)
                | 9, ho => (injection ho with ho; subst ho; have ec : ∀ v, a1.eval (.const v) = v := fun _ => rfl; have ef : ∀ f, a1.eval (.func f) = .func (.func f) #[] #[] := fun _ => rfl; have e0 : a1.eval (.tmp 15) = ptr qm 0 := st.old hl 15 (by kernel_rfl); have eg : a1.eval (.tmp 179) = .bool false := st.done 8 179 (hdep ⟨8, .guard⟩ (by simp) rfl) rfl; exact AnyOrder.step_value rfl ((AnyOrder.wanted_of rfl rfl eg).trans rfl) (m.V om) (run_load_ky e0 (At.step HKM3.out st.inv)) st.inv (Below.refl _ _) rfl)
                | 10, ho => (injection ho with ho; subst ho; have ec : ∀ v, a1.eval (.const v) = v := fun _ => rfl; have ef : ∀ f, a1.eval (.func f) = .func (.func f) #[] #[] := fun _ => rfl; have e0 : a1.eval (.tmp 6) = .int .i64 nt := st.old hl 6 (by kernel_rfl); have eg : a1.eval (.tmp 179) = .bool false := st.done 8 179 (hdep ⟨8, .guard⟩ (by simp) rfl) rfl; exact AnyOrder.step_value rfl ((AnyOrder.wanted_of rfl rfl eg).trans rfl) (.int .i64 nt) (AnyOrder.run_move e0) st.inv (Below.refl _ _) rfl)
                | 11, ho => (injection ho with ho; subst ho; have ec : ∀ v, a1.eval (.const v) = v := fun _ => rfl; have ef : ∀ f, a1.eval (.func f) = .func (.func f) #[] #[] := fun _ => rfl; have e0 : a1.eval (.tmp 180) = m.V om := st.done 9 180 (hdep ⟨9, .data⟩ (by simp) rfl) rfl; have e1 : a1.eval (.tmp 181) = .int .i64 nt := st.done 10 181 (hdep ⟨10, .data⟩ (by simp) rfl) rfl; have eg : a1.eval (.tmp 179) = .bool false := st.done 8 179 (hdep ⟨8, .chain⟩ (by simp) rfl) rfl; exact AnyOrder.step_call rfl ((AnyOrder.wanted_of rfl rfl eg).trans rfl) 19 #[m.V om, .int .i64 nt] (by generalize a1.eval = ρ at ec ef e0 e1 ⊢; simp [execOp, ec, ef, e0, e1, go_sem]) ((CU.out _ (HYM3.out.step st.inv)).mono (fun e w3 h => by obtain ⟨rfl, hb⟩ := h; exact ⟨_, rfl, st.inv.trans (hb.mono st.inv.size), hb, rfl⟩)))
                | 12, ho => (injection ho with ho; subst ho; have ec : ∀ v, a1.eval (.const v) = v := fun _ => rfl; have ef : ∀ f, a1.eval (.func f) = .func (.func f) #[] #[] := fun _ => rfl; have e0 : a1.eval (.tmp 2) = ptr w.heap.size 0 := st.old hl 2 (by kernel_rfl); have eg : a1.eval (.tmp 179) = .bool false := st.done 8 179 (hdep ⟨8, .guard⟩ (by simp) rfl) rfl; exact AnyOrder.step_value rfl ((AnyOrder.wanted_of rfl rfl eg).trans rfl) (ptr w.heap.size 5) (by generalize a1.eval = ρ at ec ef e0 ⊢; simp [execOp, ec, ef, e0, IntWalk.i64_left, go_sem]) st.inv (Below.refl _ _) rfl)
                | 13, ho => (injection ho with ho; subst ho; have ec : ∀ v, a1.eval (.const v) = v := fun _ => rfl; have ef : ∀ f, a1.eval (.func f) = .func (.func f) #[] #[] := fun _ => rfl; have e0 : a1.eval (.tmp 183) = ptr w.heap.size 5 := st.done 12 183 (hdep ⟨12, .data⟩ (by simp) rfl) rfl; have eg : a1.eval (.tmp 179) = .bool false := st.done 8 179 (hdep ⟨8, .guard⟩ (by simp) rfl) rfl; exact AnyOrder.step_value rfl ((AnyOrder.wanted_of rfl rfl eg).trans rfl) (.int .i64 (c.get 5)) (by have hk := CAt.get (At.step HIS3.out.os.cat st.inv) (k := 5) (by decide); generalize a1.eval = ρ at ec ef e0 ⊢; simp [execOp, e0, go_sem, hk]) st.inv (Below.refl _ _) rfl)
                | 14, ho => (injection ho with ho; subst ho; have ec : ∀ v, a1.eval (.const v) = v := fun _ => rfl; have ef : ∀ f, a1.eval (.func f) = .func (.func f) #[] #[] := fun _ => rfl; have e0 : a1.eval (.tmp 182) = .int .i64 ((P : Int) + 1) := st.done 11 182 (hdep ⟨11, .data⟩ (by simp) rfl) rfl; have e1 : a1.eval (.tmp 184) = .int .i64 (c.get 5) := st.done 13 184 (hdep ⟨13, .data⟩ (by simp) rfl) rfl; have eg : a1.eval (.tmp 179) = .bool false := st.done 8 179 (hdep ⟨8, .guard⟩ (by simp) rfl) rfl; exact AnyOrder.step_value rfl ((AnyOrder.wanted_of rfl rfl eg).trans rfl) (.bool false) (by generalize a1.eval = ρ at ec ef e0 e1 ⊢; simp [execOp, ec, ef, e0, e1, IntWalk.i64_left, D5.out, go_sem]) st.inv (Below.refl _ _) rfl)
                | 15, ho => (injection ho with ho; subst ho; have ec : ∀ v, a1.eval (.const v) = v := fun _ => rfl; have ef : ∀ f, a1.eval (.func f) = .func (.func f) #[] #[] := fun _ => rfl; have e0 : a1.eval (.tmp 179) = .bool false := st.done 8 179 (hdep ⟨8, .data⟩ (by simp) rfl) rfl; have e1 : a1.eval (.tmp 185) = .bool false := st.done 14 185 (hdep ⟨14, .data⟩ (by simp) rfl) rfl; exact AnyOrder.step_value rfl (AnyOrder.wanted_none rfl) (.bool false) (by generalize a1.eval = ρ at ec ef e0 e1 ⊢; simp [execOp, ec, ef, e0, e1, IntWalk.i64_left, go_sem]) st.inv (Below.refl _ _) rfl)
                | n + 16, ho => exact absurd hin (by omega)
              · intro W7 hJ7
                simp only [AnyOrder.finK, List.take_succ_cons, List.take_zero, List.drop_succ_cons, List.drop_zero, Act.put, List.setIfInBounds_toArray, List.set_cons_zero, List.set_cons_succ]
                have HIS4 := Lib.hid (HIS3.out.step hJ7); have HKM4 : Hid (KyAt W7 qm m om) := Lib.hid (At.step HKM3.out hJ7); have HYM4 := Lib.hid (HYM3.out.step hJ7)
                clear HIS3 HKM3 HYM3 hJ7 CT CU D4 D5 HW1
                go_upto_region 28 with fail
                have HXR := Lib.hid HIS4.out.kx.rng
                obtain ⟨rv2, w8, hr8, os8, km8, ym8⟩ := HIS4.out.os.push (x := x) HKM4.out HYM4.out (by have := HM.out; have := HDL.out; have := HJ.out; omega) 25
                have HR8 := Lib.hid hr8; have HPUT := Lib.hid (os8.put ym8); have HK8 := Lib.hid km8; have HQ8 := Lib.hid os8.bk
                clear hr8 os8 km8 ym8 HIS4 HKM4 HYM4
                go_wp2_with (first | ((with_reducible apply wpList_load_ac (h := HXR.out)); exact rfl; exact rfl; exact rfl) | ((with_reducible apply wpList_slice_ac (c := x)); exact rfl; exact rfl; exact rfl) | (at_builtin; (refine Lib.wpList_append_run _ rfl (.tmp 187) (.tmp 189) 25 25 rfl _ _ rfl rfl rv2 w8 HR8.out ?_)) | ((with_reducible apply wpList_load_ky (h := HK8.out)); exact rfl; exact rfl; exact rfl) | ((with_reducible apply wpList_store_ky (b := m) (s := om) (hq := HQ8.out)); exact rfl; exact rfl; exact rfl; exact rfl))
                go_roundg (N - (j + 1))
                case measure => have := HG.out; have := HJ.out; omega
                case rel => exact ⟨j + 1, nt, m, om, rv2, done ++ [x], by have := HJ.out; omega, by have := HJ.out; omega, rfl, rfl, rfl, (by have := HJ.out; rw [IntWalk.wrap64_in _ (by omega)]; rfl), HNT.out.1, by have := HNT.out.2.1; omega, by rw [List.length_append, HM.out]; have := HDL.out; simp; omega, HOI2.out, HPUT.out⟩
          · have v1n : (v1 == 1) = false := beq_eq_false_iff_ne.2 (fun e => hl (by rw [HR1.out]; exact e))
            have d0 := HCR.out
            have HV := Lib.hid v1n
            clear hm hl v1n HDE HCR HR1 HX HSZ HKM HYM
            by_cases h5 : c.get 5 < (P : Int)
            · have D4 : Hid (decide (c.get 5 < (P : Int)) = true) := Lib.hid (by simpa using h5)
              have D0 : Hid (((P : Int) != 0) = false) := Lib.hid (by have : P = 0 := by omega
                                                                      simp [this])
              clear h5 d0
              refine AnyOrder.region_kinds2 19 [.eq (.int .i64 7), .eq (.bool false), .eq (.int .i64 v1), .eq (.bool false), .eq (.bool false), .eq (.bool false), .eq (b.V ob), .eq (.int .i64 nt), .eq (.int .i64 (P : Int)), .eq (ptr w.heap.size 5), .eq (.int .i64 (c.get 5)), .eq (.bool true), .eq (.bool true), .eq (b.V ob), .eq (.int .i64 nt), .eq (.int .i64 (P : Int)), .eq (.bool false), .eq (.bool false), .eq (.bool false)] (fun wx => Below V3.heap.size V3 wx) (by kernel_rfl) (by kernel_rfl) rfl (by kernel_rfl) (below_drewN (Below.refl _ _) 1) (fun p _ _ hp => by simp at hp) ?_ ?_
              · intro i o listed a1 w2 hin ho st hl hdep
                match i, ho with
                | 0, ho => (injection ho with ho; subst ho; have ec : ∀ v, a1.eval (.const v) = v := fun _ => rfl; have ef : ∀ f, a1.eval (.func f) = .func (.func f) #[] #[] := fun _ => rfl; have e0 : a1.eval (.tmp 16) = .int .i64 7 := st.old hl 16 (by kernel_rfl); exact AnyOrder.step_value rfl (AnyOrder.wanted_none rfl) (.int .i64 7) (AnyOrder.run_move e0) st.inv (Below.refl _ _) rfl)
                | 1, ho => (injection ho with ho; subst ho; have ec : ∀ v, a1.eval (.const v) = v := fun _ => rfl; have ef : ∀ f, a1.eval (.func f) = .func (.func f) #[] #[] := fun _ => rfl; have e0 : a1.eval (.tmp 150) = .int .i64 7 := st.done 0 150 (hdep ⟨0, .data⟩ (by simp) rfl) rfl; exact AnyOrder.step_value rfl (AnyOrder.wanted_none rfl) (.bool false) (by generalize a1.eval = ρ at ec ef e0 ⊢; simp [execOp, ec, ef, e0, IntWalk.i64_left, go_sem]) st.inv (Below.refl _ _) rfl)
                | 2, ho => (injection ho with ho; subst ho; have ec : ∀ v, a1.eval (.const v) = v := fun _ => rfl; have ef : ∀ f, a1.eval (.func f) = .func (.func f) #[] #[] := fun _ => rfl; have e0 : a1.eval (.tmp 11) = .int .i64 v1 := st.old hl 11 (by kernel_rfl); exact AnyOrder.step_value rfl (AnyOrder.wanted_none rfl) (.int .i64 v1) (AnyOrder.run_move e0) st.inv (Below.refl _ _) rfl)
                | 3, ho => (injection ho with ho; subst ho; have ec : ∀ v, a1.eval (.const v) = v := fun _ => rfl; have ef : ∀ f, a1.eval (.func f) = .func (.func f) #[] #[] := fun _ => rfl; have e0 : a1.eval (.tmp 152) = .int .i64 v1 := st.done 2 152 (hdep ⟨2, .data⟩ (by simp) rfl) rfl; exact AnyOrder.step_value rfl (AnyOrder.wanted_none rfl) (.bool false) (by generalize a1.eval = ρ at ec ef e0 ⊢; simp [execOp, ec, ef, e0, IntWalk.i64_left, HV.out, go_sem]) st.inv (Below.refl _ _) rfl)
                | 4, ho => (injection ho with ho; subst ho; have ec : ∀ v, a1.eval (.const v) = v := fun _ => rfl; have ef : ∀ f, a1.eval (.func f) = .func (.func f) #[] #[] := fun _ => rfl; have e0 : a1.eval (.tmp 151) = .bool false := st.done 1 151 (hdep ⟨1, .data⟩ (by simp) rfl) rfl; have e1 : a1.eval (.tmp 153) = .bool false := st.done 3 153 (hdep ⟨3, .data⟩ (by simp) rfl) rfl; exact AnyOrder.step_value rfl (AnyOrder.wanted_none rfl) (.bool false) (by generalize a1.eval = ρ at ec ef e0 e1 ⊢; simp [execOp, ec, ef, e0, e1, IntWalk.i64_left, go_sem]) st.inv (Below.refl _ _) rfl)
                | 5, ho => (injection ho with ho; subst ho; have ec : ∀ v, a1.eval (.const v) = v := fun _ => rfl; have ef : ∀ f, a1.eval (.func f) = .func (.func f) #[] #[] := fun _ => rfl; have e0 : a1.eval (.tmp 154) = .bool false := st.done 4 154 (hdep ⟨4, .data⟩ (by simp) rfl) rfl; exact AnyOrder.step_value rfl (AnyOrder.wanted_none rfl) (.bool false) (AnyOrder.run_move e0) st.inv (Below.refl _ _) rfl)
                | 6, ho => (injection ho with ho; subst ho; have ec : ∀ v, a1.eval (.const v) = v := fun _ => rfl; have ef : ∀ f, a1.eval (.func f) = .func (.func f) #[] #[] := fun _ => rfl; have e0 : a1.eval (.tmp 5) = ptr q 0 := st.old hl 5 (by kernel_rfl); have eg : a1.eval (.tmp 155) = .bool false := st.done 5 155 (hdep ⟨5, .guard⟩ (by simp) rfl) rfl; exact AnyOrder.step_value rfl ((AnyOrder.wanted_of rfl rfl eg).trans rfl) (b.V ob) (run_load_ky e0 (At.step HIS2.out.os.bk st.inv)) st.inv (Below.refl _ _) rfl)
                | 7, ho => (injection ho with ho; subst ho; have ec : ∀ v, a1.eval (.const v) = v := fun _ => rfl; have ef : ∀ f, a1.eval (.func f) = .func (.func f) #[] #[] := fun _ => rfl; have e0 : a1.eval (.tmp 6) = .int .i64 nt := st.old hl 6 (by kernel_rfl); have eg : a1.eval (.tmp 155) = .bool false := st.done 5 155 (hdep ⟨5, .guard⟩ (by simp) rfl) rfl; exact AnyOrder.step_value rfl ((AnyOrder.wanted_of rfl rfl eg).trans rfl) (.int .i64 nt) (AnyOrder.run_move e0) st.inv (Below.refl _ _) rfl)
                | 8, ho => (injection ho with ho; subst ho; have ec : ∀ v, a1.eval (.const v) = v := fun _ => rfl; have ef : ∀ f, a1.eval (.func f) = .func (.func f) #[] #[] := fun _ => rfl; have e0 : a1.eval (.tmp 156) = b.V ob := st.done 6 156 (hdep ⟨6, .data⟩ (by simp) rfl) rfl; have e1 : a1.eval (.tmp 157) = .int .i64 nt := st.done 7 157 (hdep ⟨7, .data⟩ (by simp) rfl) rfl; have eg : a1.eval (.tmp 155) = .bool false := st.done 5 155 (hdep ⟨5, .chain⟩ (by simp) rfl) rfl; exact AnyOrder.step_call rfl ((AnyOrder.wanted_of rfl rfl eg).trans rfl) 19 #[b.V ob, .int .i64 nt] (by generalize a1.eval = ρ at ec ef e0 e1 ⊢; simp [execOp, ec, ef, e0, e1, go_sem]) ((CT.out _ (HIS2.out.os.at_.step st.inv)).mono (fun e w3 h => by obtain ⟨rfl, hb⟩ := h; exact ⟨_, rfl, st.inv.trans (hb.mono st.inv.size), hb, rfl⟩)))
                | 9, ho => (injection ho with ho; subst ho; have ec : ∀ v, a1.eval (.const v) = v := fun _ => rfl; have ef : ∀ f, a1.eval (.func f) = .func (.func f) #[] #[] := fun _ => rfl; have e0 : a1.eval (.tmp 2) = ptr w.heap.size 0 := st.old hl 2 (by kernel_rfl); have eg : a1.eval (.tmp 155) = .bool false := st.done 5 155 (hdep ⟨5, .guard⟩ (by simp) rfl) rfl; exact AnyOrder.step_value rfl ((AnyOrder.wanted_of rfl rfl eg).trans rfl) (ptr w.heap.size 5) (by generalize a1.eval = ρ at ec ef e0 ⊢; simp [execOp, ec, ef, e0, IntWalk.i64_left, go_sem]) st.inv (Below.refl _ _) rfl)
                | 10, ho => (injection ho with ho; subst ho; have ec : ∀ v, a1.eval (.const v) = v := fun _ => rfl; have ef : ∀ f, a1.eval (.func f) = .func (.func f) #[] #[] := fun _ => rfl; have e0 : a1.eval (.tmp 159) = ptr w.heap.size 5 := st.done 9 159 (hdep ⟨9, .data⟩ (by simp) rfl) rfl; have eg : a1.eval (.tmp 155) = .bool false := st.done 5 155 (hdep ⟨5, .guard⟩ (by simp) rfl) rfl; exact AnyOrder.step_value rfl ((AnyOrder.wanted_of rfl rfl eg).trans rfl) (.int .i64 (c.get 5)) (by have hk := CAt.get (At.step HIS2.out.os.cat st.inv) (k := 5) (by decide); generalize a1.eval = ρ at ec ef e0 ⊢; simp [execOp, e0, go_sem, hk]) st.inv (Below.refl _ _) rfl)
                | 11, ho => (injection ho with ho; subst ho; have ec : ∀ v, a1.eval (.const v) = v := fun _ => rfl; have ef : ∀ f, a1.eval (.func f) = .func (.func f) #[] #[] := fun _ => rfl; have e0 : a1.eval (.tmp 158) = .int .i64 (P : Int) := st.done 8 158 (hdep ⟨8, .data⟩ (by simp) rfl) rfl; have e1 : a1.eval (.tmp 160) = .int .i64 (c.get 5) := st.done 10 160 (hdep ⟨10, .data⟩ (by simp) rfl) rfl; have eg : a1.eval (.tmp 155) = .bool false := st.done 5 155 (hdep ⟨5, .guard⟩ (by simp) rfl) rfl; exact AnyOrder.step_value rfl ((AnyOrder.wanted_of rfl rfl eg).trans rfl) (.bool true) (by generalize a1.eval = ρ at ec ef e0 e1 ⊢; simp [execOp, ec, ef, e0, e1, IntWalk.i64_left, D4.out, go_sem]) st.inv (Below.refl _ _) rfl)
                | 12, ho => (injection ho with ho; subst ho; have ec : ∀ v, a1.eval (.const v) = v := fun _ => rfl; have ef : ∀ f, a1.eval (.func f) = .func (.func f) #[] #[] := fun _ => rfl; have e0 : a1.eval (.tmp 161) = .bool true := st.done 11 161 (hdep ⟨11, .data⟩ (by simp) rfl) rfl; have eg : a1.eval (.tmp 155) = .bool false := st.done 5 155 (hdep ⟨5, .guard⟩ (by simp) rfl) rfl; exact AnyOrder.step_value rfl ((AnyOrder.wanted_of rfl rfl eg).trans rfl) (.bool true) (AnyOrder.run_move e0) st.inv (Below.refl _ _) rfl)
                | 13, ho => (injection ho with ho; subst ho; have ec : ∀ v, a1.eval (.const v) = v := fun _ => rfl; have ef : ∀ f, a1.eval (.func f) = .func (.func f) #[] #[] := fun _ => rfl; have e0 : a1.eval (.tmp 5) = ptr q 0 := st.old hl 5 (by kernel_rfl); have eg : a1.eval (.tmp 162) = .bool true := st.done 12 162 (hdep ⟨12, .guard⟩ (by simp) rfl) rfl; exact AnyOrder.step_value rfl ((AnyOrder.wanted_of rfl rfl eg).trans rfl) (b.V ob) (run_load_ky e0 (At.step HIS2.out.os.bk st.inv)) st.inv (Below.refl _ _) rfl)
                | 14, ho => (injection ho with ho; subst ho; have ec : ∀ v, a1.eval (.const v) = v := fun _ => rfl; have ef : ∀ f, a1.eval (.func f) = .func (.func f) #[] #[] := fun _ => rfl; have e0 : a1.eval (.tmp 6) = .int .i64 nt := st.old hl 6 (by kernel_rfl); have eg : a1.eval (.tmp 162) = .bool true := st.done 12 162 (hdep ⟨12, .guard⟩ (by simp) rfl) rfl; exact AnyOrder.step_value rfl ((AnyOrder.wanted_of rfl rfl eg).trans rfl) (.int .i64 nt) (AnyOrder.run_move e0) st.inv (Below.refl _ _) rfl)
                | 15, ho => (injection ho with ho; subst ho; have ec : ∀ v, a1.eval (.const v) = v := fun _ => rfl; have ef : ∀ f, a1.eval (.func f) = .func (.func f) #[] #[] := fun _ => rfl; have e0 : a1.eval (.tmp 163) = b.V ob := st.done 13 163 (hdep ⟨13, .data⟩ (by simp) rfl) rfl; have e1 : a1.eval (.tmp 164) = .int .i64 nt := st.done 14 164 (hdep ⟨14, .data⟩ (by simp) rfl) rfl; have eg : a1.eval (.tmp 162) = .bool true := st.done 12 162 (hdep ⟨12, .chain⟩ (by simp) rfl) rfl; exact AnyOrder.step_call rfl ((AnyOrder.wanted_of rfl rfl eg).trans rfl) 19 #[b.V ob, .int .i64 nt] (by generalize a1.eval = ρ at ec ef e0 e1 ⊢; simp [execOp, ec, ef, e0, e1, go_sem]) ((CT.out _ (HIS2.out.os.at_.step st.inv)).mono (fun e w3 h => by obtain ⟨rfl, hb⟩ := h; exact ⟨_, rfl, st.inv.trans (hb.mono st.inv.size), hb, rfl⟩)))
                | 16, ho => (injection ho with ho; subst ho; have ec : ∀ v, a1.eval (.const v) = v := fun _ => rfl; have ef : ∀ f, a1.eval (.func f) = .func (.func f) #[] #[] := fun _ => rfl; have e0 : a1.eval (.tmp 165) = .int .i64 (P : Int) := st.done 15 165 (hdep ⟨15, .data⟩ (by simp) rfl) rfl; have eg : a1.eval (.tmp 162) = .bool true := st.done 12 162 (hdep ⟨12, .guard⟩ (by simp) rfl) rfl; exact AnyOrder.step_value rfl ((AnyOrder.wanted_of rfl rfl eg).trans rfl) (.bool false) (by generalize a1.eval = ρ at ec ef e0 ⊢; simp [execOp, ec, ef, e0, IntWalk.i64_left, D0.out, go_sem]) st.inv (Below.refl _ _) rfl)
                | 17, ho => (injection ho with ho; subst ho; have ec : ∀ v, a1.eval (.const v) = v := fun _ => rfl; have ef : ∀ f, a1.eval (.func f) = .func (.func f) #[] #[] := fun _ => rfl; have e0 : a1.eval (.tmp 162) = .bool true := st.done 12 162 (hdep ⟨12, .data⟩ (by simp) rfl) rfl; have e1 : a1.eval (.tmp 166) = .bool false := st.done 16 166 (hdep ⟨16, .data⟩ (by simp) rfl) rfl; have eg : a1.eval (.tmp 155) = .bool false := st.done 5 155 (hdep ⟨5, .guard⟩ (by simp) rfl) rfl; exact AnyOrder.step_value rfl ((AnyOrder.wanted_of rfl rfl eg).trans rfl) (.bool false) (by generalize a1.eval = ρ at ec ef e0 e1 ⊢; simp [execOp, ec, ef, e0, e1, IntWalk.i64_left, go_sem]) st.inv (Below.refl _ _) rfl)
                | 18, ho => (injection ho with ho; subst ho; have ec : ∀ v, a1.eval (.const v) = v := fun _ => rfl; have ef : ∀ f, a1.eval (.func f) = .func (.func f) #[] #[] := fun _ => rfl; have e0 : a1.eval (.tmp 155) = .bool false := st.done 5 155 (hdep ⟨5, .data⟩ (by simp) rfl) rfl; have e1 : a1.eval (.tmp 167) = .bool false := st.done 17 167 (hdep ⟨17, .data⟩ (by simp) rfl) rfl; exact AnyOrder.step_value rfl (AnyOrder.wanted_none rfl) (.bool false) (by generalize a1.eval = ρ at ec ef e0 e1 ⊢; simp [execOp, ec, ef, e0, e1, IntWalk.i64_left, go_sem]) st.inv (Below.refl _ _) rfl)
                | n + 19, ho => exact absurd hin (by omega)
              · intro W6 hJ
                simp only [AnyOrder.finK, List.take_succ_cons, List.take_zero, List.drop_succ_cons, List.drop_zero, Act.put, List.setIfInBounds_toArray, List.set_cons_zero, List.set_cons_succ]
                have HIS3 := Lib.hid (HIS2.out.step hJ)
                clear HIS2 hJ CT D4 D0 HV
                go_wp2_with fail
                go_roundg (N - (j + 1))
                case measure => have := HG.out; have := HJ.out; omega
                case rel => exact ⟨j + 1, nt, b, ob, _, done, by have := HJ.out; omega, by have := HJ.out; omega, rfl, rfl, rfl, (by have := HJ.out; rw [IntWalk.wrap64_in _ (by omega)]; rfl), HNT.out.1, by have := HNT.out.2.1; omega, by have := HDL.out; have := HM.out; omega, HOI.out, HIS3.out.os⟩
            · have D4 : Hid (decide (c.get 5 < (P : Int)) = false) := Lib.hid (by simpa using h5)
              clear h5 d0
              refine AnyOrder.region_kinds2 19 [.eq (.int .i64 7), .eq (.bool false), .eq (.int .i64 v1), .eq (.bool false), .eq (.bool false), .eq (.bool false), .eq (b.V ob), .eq (.int .i64 nt), .eq (.int .i64 (P : Int)), .eq (ptr w.heap.size 5), .eq (.int .i64 (c.get 5)), .eq (.bool false), .eq (.bool false), .eq (undef), .eq (undef), .eq (undef), .eq (undef), .eq (.bool false), .eq (.bool false)] (fun wx => Below V3.heap.size V3 wx) (by kernel_rfl) (by kernel_rfl) rfl (by kernel_rfl) (below_drewN (Below.refl _ _) 1) (fun p _ _ hp => by simp at hp) ?_ ?_
              · intro i o listed a1 w2 hin ho st hl hdep
                match i, ho with
                | 0, ho => (injection ho with ho; subst ho; have ec : ∀ v, a1.eval (.const v) = v := fun _ => rfl; have ef : ∀ f, a1.eval (.func f) = .func (.func f) #[] #[] := fun _ => rfl; have e0 : a1.eval (.tmp 16) = .int .i64 7 := st.old hl 16 (by kernel_rfl); exact AnyOrder.step_value rfl (AnyOrder.wanted_none rfl) (.int .i64 7) (AnyOrder.run_move e0) st.inv (Below.refl _ _) rfl)
                | 1, ho => (injection ho with ho; subst ho; have ec : ∀ v, a1.eval (.const v) = v := fun _ => rfl; have ef : ∀ f, a1.eval (.func f) = .func (.func f) #[] #[] := fun _ => rfl; have e0 : a1.eval (.tmp 150) = .int .i64 7 := st.done 0 150 (hdep ⟨0, .data⟩ (by simp) rfl) rfl; exact AnyOrder.step_value rfl (AnyOrder.wanted_none rfl) (.bool false) (by generalize a1.eval = ρ at ec ef e0 ⊢; simp [execOp, ec, ef, e0, IntWalk.i64_left, go_sem]) st.inv (Below.refl _ _) rfl)
                | 2, ho => (injection ho with ho; subst ho; have ec : ∀ v, a1.eval (.const v) = v := fun _ => rfl; have ef : ∀ f, a1.eval (.func f) = .func (.func f) #[] #[] := fun _ => rfl; have e0 : a1.eval (.tmp 11) = .int .i64 v1 := st.old hl 11 (by kernel_rfl); exact AnyOrder.step_value rfl (AnyOrder.wanted_none rfl) (.int .i64 v1) (AnyOrder.run_move e0) st.inv (Below.refl _ _) rfl)
                | 3, ho => (injection ho with ho; subst ho; have ec : ∀ v, a1.eval (.const v) = v := fun _ => rfl; have ef : ∀ f, a1.eval (.func f) = .func (.func f) #[] #[] := fun _ => rfl; have e0 : a1.eval (.tmp 152) = .int .i64 v1 := st.done 2 152 (hdep ⟨2, .data⟩ (by simp) rfl) rfl; exact AnyOrder.step_value rfl (AnyOrder.wanted_none rfl) (.bool false) (by generalize a1.eval = ρ at ec ef e0 ⊢; simp [execOp, ec, ef, e0, IntWalk.i64_left, HV.out, go_sem]) st.inv (Below.refl _ _) rfl)
                | 4, ho => (injection ho with ho; subst ho; have ec : ∀ v, a1.eval (.const v) = v := fun _ => rfl; have ef : ∀ f, a1.eval (.func f) = .func (.func f) #[] #[] := fun _ => rfl; have e0 : a1.eval (.tmp 151) = .bool false := st.done 1 151 (hdep ⟨1, .data⟩ (by simp) rfl) rfl; have e1 : a1.eval (.tmp 153) = .bool false := st.done 3 153 (hdep ⟨3, .data⟩ (by simp) rfl) rfl; exact AnyOrder.step_value rfl (AnyOrder.wanted_none rfl) (.bool false) (by generalize a1.eval = ρ at ec ef e0 e1 ⊢; simp [execOp, ec, ef, e0, e1, IntWalk.i64_left, go_sem]) st.inv (Below.refl _ _) rfl)
                | 5, ho => (injection ho with ho; subst ho; have ec : ∀ v, a1.eval (.const v) = v := fun _ => rfl; have ef : ∀ f, a1.eval (.func f) = .func (.func f) #[] #[] := fun _ => rfl; have e0 : a1.eval (.tmp 154) = .bool false := st.done 4 154 (hdep ⟨4, .data⟩ (by simp) rfl) rfl; exact AnyOrder.step_value rfl (AnyOrder.wanted_none rfl) (.bool false) (AnyOrder.run_move e0) st.inv (Below.refl _ _) rfl)
                | 6, ho => (injection ho with ho; subst ho; have ec : ∀ v, a1.eval (.const v) = v := fun _ => rfl; have ef : ∀ f, a1.eval (.func f) = .func (.func f) #[] #[] := fun _ => rfl; have e0 : a1.eval (.tmp 5) = ptr q 0 := st.old hl 5 (by kernel_rfl); have eg : a1.eval (.tmp 155) = .bool false := st.done 5 155 (hdep ⟨5, .guard⟩ (by simp) rfl) rfl; exact AnyOrder.step_value rfl ((AnyOrder.wanted_of rfl rfl eg).trans rfl) (b.V ob) (run_load_ky e0 (At.step HIS2.out.os.bk st.inv)) st.inv (Below.refl _ _) rfl)
                | 7, ho => (injection ho with ho; subst ho; have ec : ∀ v, a1.eval (.const v) = v := fun _ => rfl; have ef : ∀ f, a1.eval (.func f) = .func (.func f) #[] #[] := fun _ => rfl; have e0 : a1.eval (.tmp 6) = .int .i64 nt := st.old hl 6 (by kernel_rfl); have eg : a1.eval (.tmp 155) = .bool false := st.done 5 155 (hdep ⟨5, .guard⟩ (by simp) rfl) rfl; exact AnyOrder.step_value rfl ((AnyOrder.wanted_of rfl rfl eg).trans rfl) (.int .i64 nt) (AnyOrder.run_move e0) st.inv (Below.refl _ _) rfl)
                | 8, ho => (injection ho with ho; subst ho; have ec : ∀ v, a1.eval (.const v) = v := fun _ => rfl; have ef : ∀ f, a1.eval (.func f) = .func (.func f) #[] #[] := fun _ => rfl; have e0 : a1.eval (.tmp 156) = b.V ob := st.done 6 156 (hdep ⟨6, .data⟩ (by simp) rfl) rfl; have e1 : a1.eval (.tmp 157) = .int .i64 nt := st.done 7 157 (hdep ⟨7, .data⟩ (by simp) rfl) rfl; have eg : a1.eval (.tmp 155) = .bool false := st.done 5 155 (hdep ⟨5, .chain⟩ (by simp) rfl) rfl; exact AnyOrder.step_call rfl ((AnyOrder.wanted_of rfl rfl eg).trans rfl) 19 #[b.V ob, .int .i64 nt] (by generalize a1.eval = ρ at ec ef e0 e1 ⊢; simp [execOp, ec, ef, e0, e1, go_sem]) ((CT.out _ (HIS2.out.os.at_.step st.inv)).mono (fun e w3 h => by obtain ⟨rfl, hb⟩ := h; exact ⟨_, rfl, st.inv.trans (hb.mono st.inv.size), hb, rfl⟩)))
                | 9, ho => (injection ho with ho; subst ho; have ec : ∀ v, a1.eval (.const v) = v := fun _ => rfl; have ef : ∀ f, a1.eval (.func f) = .func (.func f) #[] #[] := fun _ => rfl; have e0 : a1.eval (.tmp 2) = ptr w.heap.size 0 := st.old hl 2 (by kernel_rfl); have eg : a1.eval (.tmp 155) = .bool false := st.done 5 155 (hdep ⟨5, .guard⟩ (by simp) rfl) rfl; exact AnyOrder.step_value rfl ((AnyOrder.wanted_of rfl rfl eg).trans rfl) (ptr w.heap.size 5) (by generalize a1.eval = ρ at ec ef e0 ⊢; simp [execOp, ec, ef, e0, IntWalk.i64_left, go_sem]) st.inv (Below.refl _ _) rfl)
                | 10, ho => (injection ho with ho; subst ho; have ec : ∀ v, a1.eval (.const v) = v := fun _ => rfl; have ef : ∀ f, a1.eval (.func f) = .func (.func f) #[] #[] := fun _ => rfl; have e0 : a1.eval (.tmp 159) = ptr w.heap.size 5 := st.done 9 159 (hdep ⟨9, .data⟩ (by simp) rfl) rfl; have eg : a1.eval (.tmp 155) = .bool false := st.done 5 155 (hdep ⟨5, .guard⟩ (by simp) rfl) rfl; exact AnyOrder.step_value rfl ((AnyOrder.wanted_of rfl rfl eg).trans rfl) (.int .i64 (c.get 5)) (by have hk := CAt.get (At.step HIS2.out.os.cat st.inv) (k := 5) (by decide); generalize a1.eval = ρ at ec ef e0 ⊢; simp [execOp, e0, go_sem, hk]) st.inv (Below.refl _ _) rfl)
                | 11, ho => (injection ho with ho; subst ho; have ec : ∀ v, a1.eval (.const v) = v := fun _ => rfl; have ef : ∀ f, a1.eval (.func f) = .func (.func f) #[] #[] := fun _ => rfl; have e0 : a1.eval (.tmp 158) = .int .i64 (P : Int) := st.done 8 158 (hdep ⟨8, .data⟩ (by simp) rfl) rfl; have e1 : a1.eval (.tmp 160) = .int .i64 (c.get 5) := st.done 10 160 (hdep ⟨10, .data⟩ (by simp) rfl) rfl; have eg : a1.eval (.tmp 155) = .bool false := st.done 5 155 (hdep ⟨5, .guard⟩ (by simp) rfl) rfl; exact AnyOrder.step_value rfl ((AnyOrder.wanted_of rfl rfl eg).trans rfl) (.bool false) (by generalize a1.eval = ρ at ec ef e0 e1 ⊢; simp [execOp, ec, ef, e0, e1, IntWalk.i64_left, D4.out, go_sem]) st.inv (Below.refl _ _) rfl)
                | 12, ho => (injection ho with ho; subst ho; have ec : ∀ v, a1.eval (.const v) = v := fun _ => rfl; have ef : ∀ f, a1.eval (.func f) = .func (.func f) #[] #[] := fun _ => rfl; have e0 : a1.eval (.tmp 161) = .bool false := st.done 11 161 (hdep ⟨11, .data⟩ (by simp) rfl) rfl; have eg : a1.eval (.tmp 155) = .bool false := st.done 5 155 (hdep ⟨5, .guard⟩ (by simp) rfl) rfl; exact AnyOrder.step_value rfl ((AnyOrder.wanted_of rfl rfl eg).trans rfl) (.bool false) (AnyOrder.run_move e0) st.inv (Below.refl _ _) rfl)
                | 13, ho => (injection ho with ho; subst ho; have ec : ∀ v, a1.eval (.const v) = v := fun _ => rfl; have ef : ∀ f, a1.eval (.func f) = .func (.func f) #[] #[] := fun _ => rfl; have eg : a1.eval (.tmp 162) = .bool false := st.done 12 162 (hdep ⟨12, .guard⟩ (by simp) rfl) rfl; exact AnyOrder.step_skip rfl ((AnyOrder.wanted_of rfl rfl eg).trans rfl) st.inv rfl)
                | 14, ho => (injection ho with ho; subst ho; have ec : ∀ v, a1.eval (.const v) = v := fun _ => rfl; have ef : ∀ f, a1.eval (.func f) = .func (.func f) #[] #[] := fun _ => rfl; have eg : a1.eval (.tmp 162) = .bool false := st.done 12 162 (hdep ⟨12, .guard⟩ (by simp) rfl) rfl; exact AnyOrder.step_skip rfl ((AnyOrder.wanted_of rfl rfl eg).trans rfl) st.inv rfl)
                | 15, ho => (injection ho with ho; subst ho; have ec : ∀ v, a1.eval (.const v) = v := fun _ => rfl; have ef : ∀ f, a1.eval (.func f) = .func (.func f) #[] #[] := fun _ => rfl; have eg : a1.eval (.tmp 162) = .bool false := st.done 12 162 (hdep ⟨12, .chain⟩ (by simp) rfl) rfl; exact AnyOrder.step_skip rfl ((AnyOrder.wanted_of rfl rfl eg).trans rfl) st.inv rfl)
                | 16, ho => (injection ho with ho; subst ho; have ec : ∀ v, a1.eval (.const v) = v := fun _ => rfl; have ef : ∀ f, a1.eval (.func f) = .func (.func f) #[] #[] := fun _ => rfl; have eg : a1.eval (.tmp 162) = .bool false := st.done 12 162 (hdep ⟨12, .guard⟩ (by simp) rfl) rfl; exact AnyOrder.step_skip rfl ((AnyOrder.wanted_of rfl rfl eg).trans rfl) st.inv rfl)
                | 17, ho => (injection ho with ho; subst ho; have ec : ∀ v, a1.eval (.const v) = v := fun _ => rfl; have ef : ∀ f, a1.eval (.func f) = .func (.func f) #[] #[] := fun _ => rfl; have e0 : a1.eval (.tmp 162) = .bool false := st.done 12 162 (hdep ⟨12, .data⟩ (by simp) rfl) rfl; have e1 : a1.eval (.tmp 166) = undef := st.done 16 166 (hdep ⟨16, .data⟩ (by simp) rfl) rfl; have eg : a1.eval (.tmp 155) = .bool false := st.done 5 155 (hdep ⟨5, .guard⟩ (by simp) rfl) rfl; exact AnyOrder.step_value rfl ((AnyOrder.wanted_of rfl rfl eg).trans rfl) (.bool false) (by generalize a1.eval = ρ at ec ef e0 e1 ⊢; simp [execOp, ec, ef, e0, e1, IntWalk.i64_left, go_sem]) st.inv (Below.refl _ _) rfl)
                | 18, ho => (injection ho with ho; subst ho; have ec : ∀ v, a1.eval (.const v) = v := fun _ => rfl; have ef : ∀ f, a1.eval (.func f) = .func (.func f) #[] #[] := fun _ => rfl; have e0 : a1.eval (.tmp 155) = .bool false := st.done 5 155 (hdep ⟨5, .data⟩ (by simp) rfl) rfl; have e1 : a1.eval (.tmp 167) = .bool false := st.done 17 167 (hdep ⟨17, .data⟩ (by simp) rfl) rfl; exact AnyOrder.step_value rfl (AnyOrder.wanted_none rfl) (.bool false) (by generalize a1.eval = ρ at ec ef e0 e1 ⊢; simp [execOp, ec, ef, e0, e1, IntWalk.i64_left, go_sem]) st.inv (Below.refl _ _) rfl)
                | n + 19, ho => exact absurd hin (by omega)
              · intro W6 hJ
                simp only [AnyOrder.finK, List.take_succ_cons, List.take_zero, List.drop_succ_cons, List.drop_zero, Act.put, List.setIfInBounds_toArray, List.set_cons_zero, List.set_cons_succ]
                have HIS3 := Lib.hid (HIS2.out.step hJ)
                clear HIS2 hJ CT D4 HV
                go_wp2_with fail
                go_roundg (N - (j + 1))
                case measure => have := HG.out; have := HJ.out; omega
                case rel => exact ⟨j + 1, nt, b, ob, _, done, by have := HJ.out; omega, by have := HJ.out; omega, rfl, rfl, rfl, (by have := HJ.out; rw [IntWalk.wrap64_in _ (by omega)]; rfl), HNT.out.1, by have := HNT.out.2.1; omega, by have := HDL.out; have := HM.out; omega, HOI.out, HIS3.out.os⟩
    · have hx : (j < N ∧ ¬ j < 80) ∨ ¬ j < N := by omega
      have HB := Lib.hid HOS.out.bel
      clear HG HA HOK HOI HOS hlt HN HML HDL
      rcases hx with ⟨h1, h2⟩ | h1
      · have b3 : (j : Int) < (N : Int) := by omega
        have b6 : ¬ (j : Int) < 80 := by omega
        clear h1 h2 hj hj80 hn0 hn3
        go_wp2_with fail
        go_ret
        exact ⟨rfl, HB.out⟩
      · have b3 : ¬ (j : Int) < (N : Int) := by omega
        clear h1 hj hj80 hn0 hn3
        go_wp2_with fail
        go_ret
        exact ⟨rfl, HB.out⟩
end Go.Proofs.Ytedogbkkophghaa
