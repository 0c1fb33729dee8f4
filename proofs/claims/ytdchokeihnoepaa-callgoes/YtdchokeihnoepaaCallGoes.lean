/- A call goes on by its rows alone: the statement CallGoes, both its ways together. -/
import Derived.Test.YtdchokeihnoepaaGoesB
namespace Go.Proofs.Ytdchokeihnoepaa
open Go.RowKit Go.Lib
set_option linter.unusedVariables false
set_option linter.unusedSimpArgs false

theorem callGoes_walk (c : Cfg) (x : K) (A : Option Addr) (cap : Nat) (zs : List Int) (w : World) (hz : ∀ y ∈ zs, inI64 y) (hA : IntsAt w w.heap.size A zs) (hl : zs.length ≤ maxLen) : Calls Try.prog 3 #[c.V, x.V, .slice A zs.length cap] w (Yes w true) := by
  by_cases h0 : chkK c x = 0
  · obtain ⟨hok, hask⟩ := chkK_zero h0
    have cn := ans_as (fun W => new_1_2_3 c x W) (new_ok h0)
    exact cg_walk c x A cap zs w _ hA (fun i hi => hz _ (by rw [List.getD_eq_getElem?_getD, List.getElem?_eq_getElem hi]; exact List.getElem_mem hi)) hok (ask_kind hask) (Inv.new hask) rfl cn
  · have cn := ans_as (fun W => new_1_2_3 c x W) (new_no rfl h0)
    exact cg_new c x A cap zs w _ h0 cn
end Go.Proofs.Ytdchokeihnoepaa
