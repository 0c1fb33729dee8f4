/- token: what the law asks first. -/
import Derived.Test.YthoakjfhoehpoaaTokC
namespace Go.Proofs.Ythoakjfhoehpoaa
open Go.RowKit Go.Lib

theorem of_is (s who role : Int) (v : Int) (w : World) (h0 : 0 ≤ s) (h1 : s < 4294967296) (hv : N (tk s who role) = v) :
    Calls Try.prog 8 #[.int .u32 s, .int .i64 who, .int .i64 role] w fun e w' => e = .returned (.int .u32 v) ∧ w = w' := hv ▸ of_any s who role w h0 h1
theorem is_is (s who role t : Int) (b : Bool) (w : World) (h0 : 0 ≤ s) (h1 : s < 4294967296) (hb : isT s who role t = b) :
    Calls Try.prog 10 #[.int .u32 s, .int .i64 who, .int .i64 role, .int .u32 t] w fun e w' => e = .returned (.bool b) ∧ w = w' := hb ▸ is_any s who role t w h0 h1
theorem place_is (r k : Int) (b : Bool) (w : World) (hb : may r k = b) :
    Calls Try.prog 11 #[.int .i64 r, .int .i64 k] w fun e w' => e = .returned (.bool b) ∧ w = w' := hb ▸ place_any r k w
theorem cancel_is (r : Int) (b : Bool) (w : World) (hb : canc r = b) :
    Calls Try.prog 12 #[.int .i64 r] w fun e w' => e = .returned (.bool b) ∧ w = w' := hb ▸ cancel_any r w
theorem set_is (r : Int) (b : Bool) (w : World) (hb : (r == 3) = b) :
    Calls Try.prog 13 #[.int .i64 r] w fun e w' => e = .returned (.bool b) ∧ w = w' := hb ▸ set_any r w
theorem feed_is (r : Int) (b : Bool) (w : World) (hb : canc r = b) :
    Calls Try.prog 14 #[.int .i64 r] w fun e w' => e = .returned (.bool b) ∧ w = w' := hb ▸ feed_any r w

def t711 : Int := N (tk 7 1 1)
def t701 : Int := N (tk 7 0 1)
def t000 : Int := N (tk 0 0 0)
theorem t000_ne : (t000 != 0) = true := by decide +kernel
set_option maxHeartbeats 1000000 in
theorem awake_any (w : World) : Calls Try.prog 6 #[] w fun e w' => e = .returned (.bool true) ∧ w = w' := by
  have A := Lib.hid (fun w => of_is 7 1 1 t711 w (by omega) (by omega) rfl)
  have B := Lib.hid (fun w => of_is 7 0 1 t701 w (by omega) (by omega) rfl)
  have C := Lib.hid (fun w => of_is 0 0 0 t000 w (by omega) (by omega) rfl)
  have D := Lib.hid (fun w => is_is 7 1 1 t711 true w (by omega) (by omega) (by decide +kernel))
  have E := Lib.hid (fun w => is_is 7 0 1 t701 false w (by omega) (by omega) (by decide +kernel))
  have hz := t000_ne
  generalize t711 = a at *
  generalize t701 = b at *
  generalize t000 = c at *
  go_enter Try.func6, Try.ntmps6
  go_wp2_with fail
  refine (place_is 2 4 true _ rfl).mono ?_
  rintro e w' ⟨rfl, rfl⟩
  go_wp2_with fail
  refine (place_is 2 1 false _ rfl).mono ?_
  rintro e w' ⟨rfl, rfl⟩
  go_wp2_with fail
  refine (cancel_is 1 true _ rfl).mono ?_
  rintro e w' ⟨rfl, rfl⟩
  go_wp2_with fail
  refine (set_is 1 false _ rfl).mono ?_
  rintro e w' ⟨rfl, rfl⟩
  go_wp2_with fail
  refine (feed_is 3 true _ rfl).mono ?_
  rintro e w' ⟨rfl, rfl⟩
  go_wp2_with fail
  refine (A.out _).mono ?_
  rintro e w' ⟨rfl, rfl⟩
  go_wp2_with fail
  refine (D.out _).mono ?_
  rintro e w' ⟨rfl, rfl⟩
  go_wp2_with fail
  refine (B.out _).mono ?_
  rintro e w' ⟨rfl, rfl⟩
  go_wp2_with fail
  refine (E.out _).mono ?_
  rintro e w' ⟨rfl, rfl⟩
  go_wp2_with fail
  refine (C.out _).mono ?_
  rintro e w' ⟨rfl, rfl⟩
  go_wp2
  go_ret
  exact ⟨rfl, rfl⟩
end Go.Proofs.Ythoakjfhoehpoaa
