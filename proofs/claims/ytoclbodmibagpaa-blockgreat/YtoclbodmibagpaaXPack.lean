/- Layer 10, the program: symbols that say a row of numbers; rows that are refused. -/
import Derived.Test.YtoclbodmibagpaaXF
namespace Go.Proofs.Ytoclbodmibagpaa
open Go.RowKit

def PackPost (w : World) (l : List Nat) (e : Ending) (w' : World) : Prop := ∃ (A : Option Addr) (q c : Nat) (p : List Ru), e = .returned (.tuple #[.slice A q c, .int .i64 0]) ∧ Bag w A q c p w' ∧ PackAt l l.length p
theorem fine_nat (l : List Nat) (n : Nat) (h : ∀ x ∈ l, x ≤ 15) : Fine (l.map fun x : Nat => (x : Int)) n := by
  intro i _
  rw [List.getD_eq_getElem?_getD, List.getElem?_map]
  cases hi : l[i]? with
  | none => exact ⟨by decide, by decide⟩
  | some x =>
    have := h x (List.mem_of_getElem? hi)
    exact ⟨by show (0 : Int) ≤ x; omega, by show (x : Int) ≤ 15; omega⟩
theorem low_at (l : List Nat) (h : ∀ x ∈ l, x ≤ 15) (i : Nat) : l.getD i 0 ≤ 15 := by
  rw [List.getD_eq_getElem?_getD]
  cases hi : l[i]? with
  | none => exact Nat.zero_le _
  | some x => exact h x (List.mem_of_getElem? hi)

theorem pack_bad (A : Option Addr) (n c B : Nat) (z : List Int) (w : World) (h : See w B A (zints z)) (hn : z.length = n) (hb : n ≤ 1000000) (hf : ¬ Fine z n) : Calls Try.prog 80 #[.slice A n c] w fun e w' => e = .returned (.tuple #[.slice none 0 0, .int .i64 1]) ∧ w = w' := by
  have HC := Lib.hid (contains_yes A n c B z w h hn hb hf)
  clear h hn hf
  go_enter Try.func80, Try.ntmps80
  go_wp2_with (go_at_call 113; refine HC.out.mono ?_; rintro e w1 ⟨rfl, rfl⟩)
  go_ret2
  exact ⟨rfl, rfl⟩
theorem pack_long (A : Option Addr) (n c B : Nat) (z : List Int) (w : World) (h : See w B A (zints z)) (hn : z.length = n) (hb : n ≤ 1000000) (hf : Fine z n) (hl : 1000 < n) : Calls Try.prog 80 #[.slice A n c] w fun e w' => e = .returned (.tuple #[.slice none 0 0, .int .i64 7]) ∧ w = w' := by
  have HC := Lib.hid (contains_no A n c B z w h hn hb hf)
  clear h hn hf
  go_enter Try.func80, Try.ntmps80
  go_wp2_with (go_at_call 113; refine HC.out.mono ?_; rintro e w1 ⟨rfl, rfl⟩)
  go_ret2
  exact ⟨rfl, rfl⟩

set_option maxHeartbeats 2000000 in
theorem pack (A : Option Addr) (n c B : Nat) (l : List Nat) (w : World) (h : See w B A (ints l)) (hn : l.length = n) (hb : n ≤ 1000) (hlow : ∀ x ∈ l, x ≤ 15) : Calls Try.prog 80 #[.slice A n c] w (PackPost w l) := by
  have HC := Lib.hid (contains_no A n c B (l.map fun x : Nat => (x : Int)) w (by rw [← ints_z]; exact h) (by simpa using hn) (by omega) (fine_nat l n hlow))
  have HS := Lib.hid h
  have HN := Lib.hid hn
  have HL := Lib.hid hlow
  clear h hn hlow
  go_enter Try.func80, Try.ntmps80
  go_wp2_with (go_at_call 113; refine HC.out.mono ?_; rintro e w1 ⟨rfl, rfl⟩)
  clear HC
  go_loopg [4, 5] n (fun gk v4 i wx => ∃ (A' : Option Addr) (q c' a : Nat) (p : List Ru), v4 = .slice A' q c' ∧ i = .int .i64 a ∧ n ≤ a + gk ∧ a ≤ n ∧ q ≤ a ∧ Hid (Bag w A' q c' p wx) ∧ Hid (PackAt l a p))
  case atStart => exact ⟨none, 0, 0, 0, [], rfl, rfl, by omega, by omega, by omega, Lib.hid (Bag.nil w), Lib.hid (PackAt.start l)⟩
  case round =>
    obtain ⟨A', q, c', a, p, rfl, rfl, hg2, ha, hq, HB, HP⟩ := hrel
    by_cases hlt : a < n
    · have hlt2 : (a : Int) < (n : Int) := by omega
      go_upto_region 9 with (go_at_call 115; refine (same_from A n c B a l _ (HS.out.new HB.out.2.2.1) HN.out (by omega) hlt).mono ?_; rintro e w1 ⟨t, rfl, hs, ho⟩; have HT := Lib.hid hs; have HO := Lib.hid ho; clear hs ho)
      have ht1 : 1 ≤ t := HT.out.1
      have ht2 : a + t ≤ n := by have := HT.out.2.1; rw [HN.out] at this; exact this
      have HB2 := Lib.hid (HB.out.new HO.out)
      obtain ⟨b, off, rfl, _, hd⟩ := (HS.out.new HB2.out.2.2.1) a _ (ints_atX l a (by rw [HN.out]; exact hlt))
      have hx := low_at l HL.out a
      obtain ⟨x, hx2⟩ : ∃ x, l.getD a 0 = x := ⟨_, rfl⟩
      rw [hx2] at hd hx
      have HX := Lib.hid hx2
      clear hx2 HB HO
      go_upto_region 10 with (go_at_call 116; refine (same w _ A' q c' t x p HB2.out (by omega) (by omega) ht1 hx).mono ?_; rintro e w2 ⟨A3, q3, c3, l3, rfl, hq3, hb3, hs3⟩; have HB3 := Lib.hid hb3; have HS3 := Lib.hid hs3; clear hb3 hs3)
      have HP3 : Hid (PackAt l (a + t) (p ++ l3)) := Lib.hid (HP.out.step HT.out (by rw [HX.out]; exact HS3.out))
      go_wp2_with fail
      go_roundg (gk - 1)
      case measure => omega
      case rel => exact ⟨A3, q3, c3, a + t, p ++ l3, rfl, by go_num, by omega, by omega, by omega, HB3, HP3⟩
    · obtain rfl : a = n := by omega
      go_wp2
      go_ret2
      exact ⟨A', q, c', p, rfl, HB.out, by rw [HN.out]; exact HP.out⟩
end Go.Proofs.Ytoclbodmibagpaa
