/- What each law of layer 3 asks first: nine digits. -/
import Derived.Test.YtgjkfplfmkcjdaaDoorRef
import Derived.Deep.RegionLaw
import Derived.Deep.RegionHeld3
namespace Go.Proofs.YtgjkfplfmkcjdaaDoor
open Go.RowKit

theorem below_only {S : Nat → Prop} {B : Nat} {a w w' : World} (h : Below B a w) (k : Only S w w') (hB : B ≤ w.heap.size) (hS : ∀ j, S j → B ≤ j) : Below B a w' :=
  h.trans (k.below B hB fun j hj s => by have := hS j s; omega)
/-- The table stands, and nothing below B has turned since w. -/
def Since (B : Nat) (w wx : World) : Prop := Tab wx ∧ Below B w wx ∧ B ≤ wx.heap.size
theorem Since.only {S : Nat → Prop} {B : Nat} {w wx wy : World} (h : Since B w wx) (hB : 0 < B) (k : Only S wx wy) (hS : ∀ j, S j → B ≤ j) : Since B w wy :=
  ⟨h.1.below (k.below B h.2.2 fun j hj s => by have := hS j s; omega) hB, below_only h.2.1 k h.2.2 hS, Nat.le_trans h.2.2 k.size⟩
theorem Since.below {B C : Nat} {w wx wy : World} (h : Since B w wx) (hB : 0 < B) (k : Below C wx wy) (hC : B ≤ C) : Since B w wy :=
  ⟨h.1.below (k.mono hC) hB, h.2.1.trans (k.mono hC), Nat.le_trans h.2.2 k.size⟩
theorem Since.drew {B : Nat} {w wx : World} (h : Since B w wx) (hB : 0 < B) : Since B w wx.drew := h.only hB ((Only.refl (fun _ => False) wx).drew) fun _ f => f.elim
theorem Since.drewN {B : Nat} {w wx : World} (h : Since B w wx) (hB : 0 < B) (k : Nat) : Since B w (wx.drewN k) := h.only hB ((Only.refl (fun _ => False) wx).drewN k) fun _ f => f.elim
theorem Since.start {w : World} (h : Tab w) : Since w.heap.size w w := ⟨h, Below.refl _ w, Nat.le_refl _⟩

theorem Sum.below {C : Nat} {w w' : World} {b : Nat} {l : List UInt8} (h : Sum w b l) (k : Below C w w') (hb : b < C) : Sum w' b l := (k.block b hb).trans h
/-- New, since the start. -/
theorem new2 (B : Nat) (w wx : World) (hB : 0 < B) (h : Since B w wx) : Calls Tryd.prog 7 #[] wx fun e wy => ∃ b, e = .returned (.pointer (some ⟨b, 0, none⟩)) ∧ Sum wy b [] ∧ B ≤ b ∧ Since B w wy :=
  (new wx).mono fun _ _ ⟨he, hs, ho⟩ => ⟨wx.heap.size, he, hs, h.2.2, h.only hB ho fun _ f => f.elim⟩
/-- Add, since the start. -/
theorem add2 (B b : Nat) (l : List UInt8) (s : ByteArray) (w wx : World) (hB : 0 < B) (h : Since B w wx) (hs : Sum wx b l) (hb : B ≤ b) (hl : l.length ≤ 1073741824) (hz : s.size ≤ 1073741824) :
    Calls Tryd.prog 8 #[.pointer (some ⟨b, 0, none⟩), .string s] wx fun e wy => e = .returned (.pointer (some ⟨b, 0, none⟩)) ∧ Sum wy b (l ++ s.data.toList) ∧ Since B w wy :=
  (add b l s wx hs h.1 hl hz).mono fun _ _ ⟨he, hs, ho⟩ => ⟨he, hs, h.only hB ho fun j e => by rw [e]; exact hb⟩
theorem rof2 (B : Nat) (s : ByteArray) (w wx : World) (hB : 0 < B) (h : Since B w wx) (hz : s.size ≤ 1073741824) :
    Calls Tryd.prog 11 #[.string s] wx fun e wy => e = .returned (.int .u32 (crc s.data.toList : Nat)) ∧ Since B w wy ∧ Below wx.heap.size wx wy :=
  (rof s wx hz).mono fun _ _ ⟨he, hb⟩ => ⟨he, h.below hB hb h.2.2, hb⟩

def t9 : ByteArray := ⟨#[49, 50, 51, 52, 53, 54, 55, 56, 57]⟩
def t4 : ByteArray := ⟨#[49, 50, 51, 52]⟩
def t5 : ByteArray := ⟨#[53, 54, 55, 56, 57]⟩
def t2 : ByteArray := ⟨#[97, 98]⟩
theorem nine : crc t9.data.toList = 3421780262 := by kernel_rfl
theorem nine2 : crc ([] ++ t4.data.toList ++ t5.data.toList) = 3421780262 := by kernel_rfl
theorem two : ([] ++ t2.data.toList).length = 2 := by kernel_rfl

set_option maxHeartbeats 4000000 in
theorem awake (B : Nat) (w w0 : World) (hB : 0 < B) (h : Since B w w0) : Calls Tryd.prog 6 #[] w0 fun e w' => e = .returned (.bool true) ∧ Since B w w' := by
  have HS := Lib.hid h
  have C1 := of t9 w0 h.1 (by decide)
  rw [nine] at C1
  have HC1 := Lib.hid C1
  clear h C1
  go_enter Tryd.func6, Tryd.ntmps6
  go_wp2_with fail
  refine HC1.out.mono ?_
  rintro e w' ⟨rfl, rfl⟩
  go_wp2_with fail
  refine (new2 B w w0 hB HS.out).mono ?_
  rintro e w1 ⟨b, rfl, hs1, hb1, hi1⟩
  have HS1 := Lib.hid hs1
  have HI1 := Lib.hid hi1
  clear hs1 hi1
  go_wp2_with fail
  refine (add2 B b [] t4 w w1 hB HI1.out HS1.out hb1 (by decide) (by decide)).mono ?_
  rintro e w2 ⟨rfl, hs2, hi2⟩
  have HS2 := Lib.hid hs2
  have HI2 := Lib.hid hi2
  clear hs2 hi2
  go_wp2_with fail
  refine (add2 B b _ t5 w w2 hB HI2.out HS2.out hb1 (by decide) (by decide)).mono ?_
  rintro e w3 ⟨rfl, hs3, hi3⟩
  have HS3 := Lib.hid hs3
  have HI3 := Lib.hid hi3
  clear hs3 hi3
  go_wp2_with fail
  refine (value b _ w3 HS3.out).mono ?_
  rw [nine2]
  rintro e w' ⟨rfl, rfl⟩
  go_wp2_with fail
  refine (new2 B w w3 hB HI3.out).mono ?_
  rintro e w4 ⟨b4, rfl, hs4, hb4, hi4⟩
  have HS4 := Lib.hid hs4
  have HI4 := Lib.hid hi4
  clear hs4 hi4
  go_wp2_with fail
  refine (add2 B b4 [] t2 w w4 hB HI4.out HS4.out hb4 (by decide) (by decide)).mono ?_
  rintro e w5 ⟨rfl, hs5, hi5⟩
  have HS5 := Lib.hid hs5
  have HI5 := Lib.hid hi5
  clear hs5 hi5
  go_wp2_with fail
  refine (len b4 _ w5 HS5.out).mono ?_
  rw [two]
  rintro e w' ⟨rfl, rfl⟩
  go_wp2
  go_ret
  exact ⟨rfl, HI5.out⟩
end Go.Proofs.YtgjkfplfmkcjdaaDoor
