/- Layer 7: TokenSymbols, the law's own walk. -/
import Derived.Test.YtngpameophckeaaAwake
import Derived.Test.YtngpameophckeaaRefLen
namespace Go.Proofs.Ytngpameophckeaa
open Go.RowKit

def Yes (w : World) (e : Ending) (w' : World) : Prop := e = .returned (.bool true) ∧ Only (fun _ => False) w w'
theorem lof0 : LofIs 0 0 0 false := .out 0 0 (by decide)
theorem dof0 : DofIs 0 0 1 true := .row 0 0 (by decide) (by decide)

set_option maxRecDepth 100000 in
set_option maxHeartbeats 8000000 in
theorem symbols_both (n d a b c e f g : Int) (w : World) (h1 : LenIs n a b c true) (h2 : DistIs d e f g true) : Calls Try.prog 4 #[.int .i64 n, .int .i64 d] w (Yes w) := by
  have H1 := Lib.hid h1
  have H2 := Lib.hid h2
  clear h1 h2
  go_enter Try.func4, Try.ntmps4
  go_wp2_with (first
    | (go_at_call 6; refine (awake _).mono ?_; rintro e w1 ⟨rfl, ho⟩; have HO1 := Lib.hid ho; clear ho)
    | (go_at_call 11; refine (length n a b c true _ H1.out).mono ?_; rintro e w2 ⟨rfl, ho⟩; have HO2 := Lib.hid ho; clear ho)
    | (go_at_call 12; refine (rlength n a b c true _ H1.out).mono ?_; rintro e w3 ⟨rfl, ho⟩; have HO3 := Lib.hid ho; clear ho)
    | (go_at_call 13; refine (distance d e f g true _ H2.out).mono ?_; rintro e w4 ⟨rfl, ho⟩; have HO4 := Lib.hid ho; clear ho)
    | (go_at_call 14; refine (rdistance d e f g true _ H2.out).mono ?_; rintro e w5 ⟨rfl, ho⟩; have HO5 := Lib.hid ho; clear ho)
    | (go_at_call 15; refine (lengthOf a c n true _ H1.out.back).mono ?_; rintro e w6 ⟨rfl, ho⟩; have HO6 := Lib.hid ho; clear ho)
    | (go_at_call 16; refine (distanceOf e g d true _ H2.out.back).mono ?_; rintro e w7 ⟨rfl, ho⟩; have HO7 := Lib.hid ho; clear ho))
  go_ret
  exact ⟨rfl, ((((((HO1.out.trans HO2.out).trans HO3.out).trans HO4.out).trans HO5.out).trans HO6.out).trans HO7.out)⟩

set_option maxRecDepth 100000 in
set_option maxHeartbeats 8000000 in
theorem symbols_len (n d a b c : Int) (w : World) (h1 : LenIs n a b c true) (h2 : DistIs d 0 0 0 false) : Calls Try.prog 4 #[.int .i64 n, .int .i64 d] w (Yes w) := by
  have H1 := Lib.hid h1
  have H2 := Lib.hid h2
  clear h1 h2
  go_enter Try.func4, Try.ntmps4
  go_wp2_with (first
    | (go_at_call 6; refine (awake _).mono ?_; rintro e w1 ⟨rfl, ho⟩; have HO1 := Lib.hid ho; clear ho)
    | (go_at_call 11; refine (length n a b c true _ H1.out).mono ?_; rintro e w2 ⟨rfl, ho⟩; have HO2 := Lib.hid ho; clear ho)
    | (go_at_call 12; refine (rlength n a b c true _ H1.out).mono ?_; rintro e w3 ⟨rfl, ho⟩; have HO3 := Lib.hid ho; clear ho)
    | (go_at_call 13; refine (distance d 0 0 0 false _ H2.out).mono ?_; rintro e w4 ⟨rfl, ho⟩; have HO4 := Lib.hid ho; clear ho)
    | (go_at_call 14; refine (rdistance d 0 0 0 false _ H2.out).mono ?_; rintro e w5 ⟨rfl, ho⟩; have HO5 := Lib.hid ho; clear ho)
    | (go_at_call 15; refine (lengthOf a c n true _ H1.out.back).mono ?_; rintro e w6 ⟨rfl, ho⟩; have HO6 := Lib.hid ho; clear ho)
    | (go_at_call 16; refine (distanceOf 0 0 1 true _ dof0).mono ?_; rintro e w7 ⟨rfl, ho⟩; have HO7 := Lib.hid ho; clear ho))
  go_ret
  exact ⟨rfl, ((((((HO1.out.trans HO2.out).trans HO3.out).trans HO4.out).trans HO5.out).trans HO6.out).trans HO7.out)⟩

set_option maxRecDepth 100000 in
set_option maxHeartbeats 8000000 in
theorem symbols_dist (n d e f g : Int) (w : World) (h1 : LenIs n 0 0 0 false) (h2 : DistIs d e f g true) : Calls Try.prog 4 #[.int .i64 n, .int .i64 d] w (Yes w) := by
  have H1 := Lib.hid h1
  have H2 := Lib.hid h2
  clear h1 h2
  go_enter Try.func4, Try.ntmps4
  go_wp2_with (first
    | (go_at_call 6; refine (awake _).mono ?_; rintro e w1 ⟨rfl, ho⟩; have HO1 := Lib.hid ho; clear ho)
    | (go_at_call 11; refine (length n 0 0 0 false _ H1.out).mono ?_; rintro e w2 ⟨rfl, ho⟩; have HO2 := Lib.hid ho; clear ho)
    | (go_at_call 12; refine (rlength n 0 0 0 false _ H1.out).mono ?_; rintro e w3 ⟨rfl, ho⟩; have HO3 := Lib.hid ho; clear ho)
    | (go_at_call 13; refine (distance d e f g true _ H2.out).mono ?_; rintro e w4 ⟨rfl, ho⟩; have HO4 := Lib.hid ho; clear ho)
    | (go_at_call 14; refine (rdistance d e f g true _ H2.out).mono ?_; rintro e w5 ⟨rfl, ho⟩; have HO5 := Lib.hid ho; clear ho)
    | (go_at_call 15; refine (lengthOf 0 0 0 false _ lof0).mono ?_; rintro e w6 ⟨rfl, ho⟩; have HO6 := Lib.hid ho; clear ho)
    | (go_at_call 16; refine (distanceOf e g d true _ H2.out.back).mono ?_; rintro e w7 ⟨rfl, ho⟩; have HO7 := Lib.hid ho; clear ho))
  go_ret
  exact ⟨rfl, ((((((HO1.out.trans HO2.out).trans HO3.out).trans HO4.out).trans HO5.out).trans HO6.out).trans HO7.out)⟩

set_option maxRecDepth 100000 in
set_option maxHeartbeats 8000000 in
theorem symbols_none (n d : Int) (w : World) (h1 : LenIs n 0 0 0 false) (h2 : DistIs d 0 0 0 false) : Calls Try.prog 4 #[.int .i64 n, .int .i64 d] w (Yes w) := by
  have H1 := Lib.hid h1
  have H2 := Lib.hid h2
  clear h1 h2
  go_enter Try.func4, Try.ntmps4
  go_wp2_with (first
    | (go_at_call 6; refine (awake _).mono ?_; rintro e w1 ⟨rfl, ho⟩; have HO1 := Lib.hid ho; clear ho)
    | (go_at_call 11; refine (length n 0 0 0 false _ H1.out).mono ?_; rintro e w2 ⟨rfl, ho⟩; have HO2 := Lib.hid ho; clear ho)
    | (go_at_call 12; refine (rlength n 0 0 0 false _ H1.out).mono ?_; rintro e w3 ⟨rfl, ho⟩; have HO3 := Lib.hid ho; clear ho)
    | (go_at_call 13; refine (distance d 0 0 0 false _ H2.out).mono ?_; rintro e w4 ⟨rfl, ho⟩; have HO4 := Lib.hid ho; clear ho)
    | (go_at_call 14; refine (rdistance d 0 0 0 false _ H2.out).mono ?_; rintro e w5 ⟨rfl, ho⟩; have HO5 := Lib.hid ho; clear ho)
    | (go_at_call 15; refine (lengthOf 0 0 0 false _ lof0).mono ?_; rintro e w6 ⟨rfl, ho⟩; have HO6 := Lib.hid ho; clear ho)
    | (go_at_call 16; refine (distanceOf 0 0 1 true _ dof0).mono ?_; rintro e w7 ⟨rfl, ho⟩; have HO7 := Lib.hid ho; clear ho))
  go_ret
  exact ⟨rfl, ((((((HO1.out.trans HO2.out).trans HO3.out).trans HO4.out).trans HO5.out).trans HO6.out).trans HO7.out)⟩

theorem law2 (n d : Int) (w : World) : Calls Try.prog 4 #[.int .i64 n, .int .i64 d] w (Yes w) := by
  obtain ⟨a, b, c, ok, h1⟩ := lenIs n
  obtain ⟨e, f, g, there, h2⟩ := distIs d
  cases ok with
  | true =>
    cases there with
    | true => exact symbols_both n d a b c e f g w h1 h2
    | false => cases h2 with | no _ h => exact symbols_len n d a b c w h1 (.no d h)
  | false =>
    cases h1 with
    | no _ h =>
      cases there with
      | true => exact symbols_dist n d e f g w (.no n h) h2
      | false => cases h2 with | no _ h' => exact symbols_none n d w (.no n h) (.no d h')
end Go.Proofs.Ytngpameophckeaa
