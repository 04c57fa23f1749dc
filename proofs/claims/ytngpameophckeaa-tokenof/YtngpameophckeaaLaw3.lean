/- Layer 7: TokenOf, the law's own walk. -/
import Derived.Test.YtngpameophckeaaLaw2
namespace Go.Proofs.Ytngpameophckeaa
open Go.RowKit

theorem len0 : LenIs 0 0 0 0 false := .no 0 (by decide)
theorem dist0 : DistIs 0 0 0 0 false := .no 0 (by decide)

set_option maxRecDepth 100000 in
set_option maxHeartbeats 8000000 in
theorem of_both (a c n b d f : Int) (w : World) (h1 : LofIs a c n true) (g1 : LenIs n a b c true) (h2 : DofIs a c d true) (g2 : DistIs d a f c true) : Calls Try.prog 5 #[.int .i64 a, .int .i64 c] w (Yes w) := by
  have H1 := Lib.hid h1
  have H2 := Lib.hid h2
  clear h1 h2
  have G1 := Lib.hid g1
  clear g1
  have G2 := Lib.hid g2
  clear g2
  go_enter Try.func5, Try.ntmps5
  go_wp2_with (first
    | (go_at_call 6; refine (awake _).mono ?_; rintro e w1 ⟨rfl, ho⟩; have HO1 := Lib.hid ho; clear ho)
    | (go_at_call 15; refine (lengthOf a c n true _ H1.out).mono ?_; rintro e w2 ⟨rfl, ho⟩; have HO2 := Lib.hid ho; clear ho)
    | (go_at_call 17; refine (rlengthOf a c n true _ H1.out).mono ?_; rintro e w3 ⟨rfl, ho⟩; have HO3 := Lib.hid ho; clear ho)
    | (go_at_call 16; refine (distanceOf a c d true _ H2.out).mono ?_; rintro e w4 ⟨rfl, ho⟩; have HO4 := Lib.hid ho; clear ho)
    | (go_at_call 18; refine (rdistanceOf a c d true _ H2.out).mono ?_; rintro e w5 ⟨rfl, ho⟩; have HO5 := Lib.hid ho; clear ho)
    | (go_at_call 11; refine (length n a b c true _ G1.out).mono ?_; rintro e w6 ⟨rfl, ho⟩; have HO6 := Lib.hid ho; clear ho)
    | (go_at_call 13; refine (distance d a f c true _ G2.out).mono ?_; rintro e w7 ⟨rfl, ho⟩; have HO7 := Lib.hid ho; clear ho))
  go_ret
  exact ⟨rfl, ((((((HO1.out.trans HO2.out).trans HO3.out).trans HO4.out).trans HO5.out).trans HO6.out).trans HO7.out)⟩

set_option maxRecDepth 100000 in
set_option maxHeartbeats 8000000 in
theorem of_len (a c n b : Int) (w : World) (h1 : LofIs a c n true) (g1 : LenIs n a b c true) (h2 : DofIs a c 0 false) : Calls Try.prog 5 #[.int .i64 a, .int .i64 c] w (Yes w) := by
  have H1 := Lib.hid h1
  have H2 := Lib.hid h2
  clear h1 h2
  have G1 := Lib.hid g1
  clear g1
  go_enter Try.func5, Try.ntmps5
  go_wp2_with (first
    | (go_at_call 6; refine (awake _).mono ?_; rintro e w1 ⟨rfl, ho⟩; have HO1 := Lib.hid ho; clear ho)
    | (go_at_call 15; refine (lengthOf a c n true _ H1.out).mono ?_; rintro e w2 ⟨rfl, ho⟩; have HO2 := Lib.hid ho; clear ho)
    | (go_at_call 17; refine (rlengthOf a c n true _ H1.out).mono ?_; rintro e w3 ⟨rfl, ho⟩; have HO3 := Lib.hid ho; clear ho)
    | (go_at_call 16; refine (distanceOf a c 0 false _ H2.out).mono ?_; rintro e w4 ⟨rfl, ho⟩; have HO4 := Lib.hid ho; clear ho)
    | (go_at_call 18; refine (rdistanceOf a c 0 false _ H2.out).mono ?_; rintro e w5 ⟨rfl, ho⟩; have HO5 := Lib.hid ho; clear ho)
    | (go_at_call 11; refine (length n a b c true _ G1.out).mono ?_; rintro e w6 ⟨rfl, ho⟩; have HO6 := Lib.hid ho; clear ho)
    | (go_at_call 13; refine (distance 0 0 0 0 false _ dist0).mono ?_; rintro e w7 ⟨rfl, ho⟩; have HO7 := Lib.hid ho; clear ho))
  go_ret
  exact ⟨rfl, ((((((HO1.out.trans HO2.out).trans HO3.out).trans HO4.out).trans HO5.out).trans HO6.out).trans HO7.out)⟩

set_option maxRecDepth 100000 in
set_option maxHeartbeats 8000000 in
theorem of_dist (a c d f : Int) (w : World) (h1 : LofIs a c 0 false) (h2 : DofIs a c d true) (g2 : DistIs d a f c true) : Calls Try.prog 5 #[.int .i64 a, .int .i64 c] w (Yes w) := by
  have H1 := Lib.hid h1
  have H2 := Lib.hid h2
  clear h1 h2
  have G2 := Lib.hid g2
  clear g2
  go_enter Try.func5, Try.ntmps5
  go_wp2_with (first
    | (go_at_call 6; refine (awake _).mono ?_; rintro e w1 ⟨rfl, ho⟩; have HO1 := Lib.hid ho; clear ho)
    | (go_at_call 15; refine (lengthOf a c 0 false _ H1.out).mono ?_; rintro e w2 ⟨rfl, ho⟩; have HO2 := Lib.hid ho; clear ho)
    | (go_at_call 17; refine (rlengthOf a c 0 false _ H1.out).mono ?_; rintro e w3 ⟨rfl, ho⟩; have HO3 := Lib.hid ho; clear ho)
    | (go_at_call 16; refine (distanceOf a c d true _ H2.out).mono ?_; rintro e w4 ⟨rfl, ho⟩; have HO4 := Lib.hid ho; clear ho)
    | (go_at_call 18; refine (rdistanceOf a c d true _ H2.out).mono ?_; rintro e w5 ⟨rfl, ho⟩; have HO5 := Lib.hid ho; clear ho)
    | (go_at_call 11; refine (length 0 0 0 0 false _ len0).mono ?_; rintro e w6 ⟨rfl, ho⟩; have HO6 := Lib.hid ho; clear ho)
    | (go_at_call 13; refine (distance d a f c true _ G2.out).mono ?_; rintro e w7 ⟨rfl, ho⟩; have HO7 := Lib.hid ho; clear ho))
  go_ret
  exact ⟨rfl, ((((((HO1.out.trans HO2.out).trans HO3.out).trans HO4.out).trans HO5.out).trans HO6.out).trans HO7.out)⟩

set_option maxRecDepth 100000 in
set_option maxHeartbeats 8000000 in
theorem of_none (a c : Int) (w : World) (h1 : LofIs a c 0 false) (h2 : DofIs a c 0 false) : Calls Try.prog 5 #[.int .i64 a, .int .i64 c] w (Yes w) := by
  have H1 := Lib.hid h1
  have H2 := Lib.hid h2
  clear h1 h2
  go_enter Try.func5, Try.ntmps5
  go_wp2_with (first
    | (go_at_call 6; refine (awake _).mono ?_; rintro e w1 ⟨rfl, ho⟩; have HO1 := Lib.hid ho; clear ho)
    | (go_at_call 15; refine (lengthOf a c 0 false _ H1.out).mono ?_; rintro e w2 ⟨rfl, ho⟩; have HO2 := Lib.hid ho; clear ho)
    | (go_at_call 17; refine (rlengthOf a c 0 false _ H1.out).mono ?_; rintro e w3 ⟨rfl, ho⟩; have HO3 := Lib.hid ho; clear ho)
    | (go_at_call 16; refine (distanceOf a c 0 false _ H2.out).mono ?_; rintro e w4 ⟨rfl, ho⟩; have HO4 := Lib.hid ho; clear ho)
    | (go_at_call 18; refine (rdistanceOf a c 0 false _ H2.out).mono ?_; rintro e w5 ⟨rfl, ho⟩; have HO5 := Lib.hid ho; clear ho)
    | (go_at_call 11; refine (length 0 0 0 0 false _ len0).mono ?_; rintro e w6 ⟨rfl, ho⟩; have HO6 := Lib.hid ho; clear ho)
    | (go_at_call 13; refine (distance 0 0 0 0 false _ dist0).mono ?_; rintro e w7 ⟨rfl, ho⟩; have HO7 := Lib.hid ho; clear ho))
  go_ret
  exact ⟨rfl, ((((((HO1.out.trans HO2.out).trans HO3.out).trans HO4.out).trans HO5.out).trans HO6.out).trans HO7.out)⟩

theorem LofIs.zero {a c n : Int} (h : LofIs a c n false) : n = 0 := by cases h <;> rfl
theorem DofIs.zero {a c n : Int} (h : DofIs a c n false) : n = 0 := by cases h <;> rfl
theorem law3 (a c : Int) (w : World) : Calls Try.prog 5 #[.int .i64 a, .int .i64 c] w (Yes w) := by
  obtain ⟨n, ok, h1⟩ := lofIs a c
  obtain ⟨d, there, h2⟩ := dofIs a c
  cases ok with
  | true =>
    obtain ⟨b, g1⟩ := h1.back
    cases there with
    | true =>
      obtain ⟨f, g2⟩ := h2.back
      exact of_both a c n b d f w h1 g1 h2 g2
    | false =>
      obtain rfl := h2.zero
      exact of_len a c n b w h1 g1 h2
  | false =>
    obtain rfl := h1.zero
    cases there with
    | true =>
      obtain ⟨f, g2⟩ := h2.back
      exact of_dist a c d f w h1 h2 g2
    | false =>
      obtain rfl := h2.zero
      exact of_none a c w h1 h2
end Go.Proofs.Ytngpameophckeaa
