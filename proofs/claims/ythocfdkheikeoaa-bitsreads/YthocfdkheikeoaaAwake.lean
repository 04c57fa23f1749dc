/- What each law of layer 1 asks first: the document's own four bits. -/
import Derived.Test.YthocfdkheikeoaaWriteb
namespace Go.Proofs.Ythocfdkheikeoaa
open Go.RowKit

/-- The byte 13 as a text. -/
def t13 : ByteArray := ⟨#[13]⟩
theorem r1 : rBits t13 0 false 3 = (5, 3, false) := by decide
theorem r2 : rBits t13 3 false 1 = (1, 4, false) := by decide
theorem r3 : rBits t13 4 false 5 = (0, 4, true) := by decide

theorem put_first (b : Nat) (w : World) (h : Wrt w b none 0 0 0 []) :
    Calls Try.prog 20 #[.pointer (some ⟨b, 0, none⟩), .int .u32 5, .int .i64 3] w fun e w' => e = .returned (.tuple #[]) ∧ ∃ A c, Wrt w' b A 1 c 3 [5] ∧ (A = none ∨ ∃ g, A = some ⟨g, 0, none⟩ ∧ w.heap.size ≤ g) ∧ Only (· = b) w w' := by
  refine (put b none 0 0 0 5 3 [] w h (by omega) (by omega)).mono ?_
  rintro e w' ⟨rfl, A, n, c, l, hw, hn, hl, ho, ha⟩
  have hc : clamp 3 = 3 := by decide
  rw [hc] at hw hn hl
  simp [le] at hl hn
  subst hn
  obtain rfl : l = [5] := le_inj _ _ hw.2.len (by rw [hl]; rfl)
  refine ⟨rfl, A, c, ⟨hw, rfl, by decide⟩, ha, ho.mono ?_⟩
  rintro j (e | ⟨ad, e, _⟩)
  · exact e
  · cases e
theorem put_second (b : Nat) (A : Option Addr) (c : Nat) (w : World) (h : Wrt w b A 1 c 3 [5]) :
    Calls Try.prog 20 #[.pointer (some ⟨b, 0, none⟩), .int .u32 1, .int .i64 1] w fun e w' => e = .returned (.tuple #[]) ∧ ∃ A' c', Wr w' b A' 1 c' 4 [13] ∧ Only (fun j => j = b ∨ Lies A j) w w' := by
  refine (put b A 1 c 3 1 1 [5] w h (by omega) (by omega)).mono ?_
  rintro e w' ⟨rfl, A', n, c', l, hw, hn, hl, ho, ha⟩
  have hc : clamp 1 = 1 := by decide
  rw [hc] at hw hn hl
  simp [le] at hl hn
  subst hn
  obtain rfl : l = [13] := le_inj _ _ hw.2.len (by rw [hl]; rfl)
  exact ⟨rfl, A', c', hw, ho⟩

theorem below_only {S : Nat → Prop} {B : Nat} {a w w' : World} (h : Below B a w) (k : Only S w w') (hB : B ≤ w.heap.size) (hS : ∀ j, S j → B ≤ j) : Below B a w' :=
  h.trans (k.below B hB fun j hj s => by have := hS j s; omega)

set_option maxHeartbeats 4000000 in
theorem awake (w : World) : Calls Try.prog 7 #[] w fun e w' => e = .returned (.bool true) ∧ Below w.heap.size w w' := by
  go_enter Try.func7, Try.ntmps7
  go_wp2_with fail
  refine (newWriter w).mono ?_
  rintro e w1 ⟨rfl, hw1⟩
  have hI1 : Wrt w1 w.heap.size none 0 0 0 [] := by
    subst hw1
    exact ⟨⟨Is.new w 56 _, Row.nil 5 _⟩, rfl, by decide⟩
  have ho1 : Below w.heap.size w w1 := by subst hw1; exact (Below.refl _ w).alloc (Nat.le_refl _) _
  obtain ⟨b, hb⟩ : ∃ b, w.heap.size = b := ⟨_, rfl⟩
  rw [hb] at hI1 ho1 ⊢
  have Hb := Lib.hid hb
  have HI1 := Lib.hid hI1
  have HO1 := Lib.hid ho1
  clear hw1 hI1 ho1 hb
  go_wp2_with fail
  refine (put_first b w1 HI1.out).mono ?_
  rintro e w2 ⟨rfl, A, c, hI2, ha2, ho2⟩
  have HI2 := Lib.hid hI2
  have HA2 := Lib.hid ha2
  have HO2 := Lib.hid (below_only HO1.out ho2 (Nat.le_of_lt HI1.out.wr.1.lt) (by rintro j rfl; exact Nat.le_refl _))
  have hs2 : b < w2.heap.size := hI2.wr.1.lt
  clear hI2 ha2 ho2
  go_wp2_with fail
  refine (put_second b A c w2 HI2.out).mono ?_
  rintro e w3 ⟨rfl, A3, c3, hI3, ho3⟩
  have HI3 := Lib.hid hI3
  have HO3 := Lib.hid (below_only HO2.out ho3 (Nat.le_of_lt HI2.out.wr.1.lt) (by
    rintro j (rfl | ⟨ad, e1, e2⟩)
    · exact Nat.le_refl _
    · rcases HA2.out with e3 | ⟨g, e3, e4⟩
      · rw [e3] at e1; cases e1
      · rw [e3] at e1
        obtain rfl := Option.some.inj e1
        have := HI1.out.wr.1.lt
        rw [← e2]
        show b ≤ g
        omega))
  have hs3 : b < w3.heap.size := hI3.1.lt
  clear hI3 ho3
  go_wp2_with fail
  refine (newReader t13 w3).mono ?_
  rintro e w4 ⟨rfl, hw4⟩
  have HR4 : Hid (Rd w4 w3.heap.size t13 0 false) := by subst hw4; exact Is.new w3 53 _
  have HI4 : Hid (Wr w4 b A3 1 c3 4 [13]) := by subst hw4; exact ⟨HI3.out.1.alloc _, HI3.out.2.alloc _⟩
  have HO4 : Hid (Below b w w4) := by subst hw4; exact HO3.out.alloc (by omega) _
  obtain ⟨rb, hrb⟩ : ∃ rb, w3.heap.size = rb := ⟨_, rfl⟩
  rw [hrb] at HR4 ⊢
  have hs4 : b ≤ rb := by omega
  clear hw4 hrb
  go_wp2_with fail
  refine (text b A3 1 c3 4 [13] w4 HI4.out).mono ?_
  rintro e w' ⟨rfl, rfl⟩
  go_wp2_with fail
  refine (len b A3 1 c3 4 [13] w4 HI4.out).mono ?_
  rintro e w' ⟨rfl, rfl⟩
  go_wp2_with fail
  have hsz : t13.size ≤ 1073741824 := by decide
  refine (rbits rb t13 0 false 3 w4 HR4.out (by decide) (by decide)).mono ?_
  rw [r1]
  rintro e w5 ⟨rfl, hr5, ho5⟩
  have HR5 := Lib.hid hr5
  have HO5 := Lib.hid (below_only HO4.out ho5 (by have := HR4.out.lt; omega) (by rintro j rfl; exact hs4))
  clear hr5 ho5
  go_wp2_with fail
  refine (rbits rb t13 3 false 1 w5 HR5.out (by decide) (by decide)).mono ?_
  rw [r2]
  rintro e w6 ⟨rfl, hr6, ho6⟩
  have HR6 := Lib.hid hr6
  have HO6 := Lib.hid (below_only HO5.out ho6 (by have := HR5.out.lt; omega) (by rintro j rfl; exact hs4))
  clear hr6 ho6
  go_wp2_with fail
  refine (at_ rb t13 4 false w6 HR6.out).mono ?_
  rintro e w' ⟨rfl, rfl⟩
  go_wp2_with fail
  refine (left rb t13 4 false w6 HR6.out (by decide) (by decide)).mono ?_
  rintro e w' ⟨rfl, k, rfl⟩
  go_wp2_with fail
  refine (err rb t13 4 false _ (HR6.out.drewN k)).mono ?_
  rintro e w' ⟨rfl, rfl⟩
  go_wp2_with fail
  refine (rbits rb t13 4 false 5 _ (HR6.out.drewN k) (by decide) (by decide)).mono ?_
  rw [r3]
  rintro e w7 ⟨rfl, hr7, ho7⟩
  have HR7 := Lib.hid hr7
  have HO7 := Lib.hid (below_only HO6.out (((Only.refl (· = rb) w6).drewN k).trans ho7) (by have := HR6.out.lt; omega) (by rintro j rfl; exact hs4))
  clear hr7 ho7
  go_wp2_with fail
  refine (err rb t13 4 true w7 HR7.out).mono ?_
  rintro e w' ⟨rfl, rfl⟩
  go_wp2
  go_ret
  exact ⟨rfl, by rw [Hb.out]; exact HO7.out⟩
end Go.Proofs.Ythocfdkheikeoaa
