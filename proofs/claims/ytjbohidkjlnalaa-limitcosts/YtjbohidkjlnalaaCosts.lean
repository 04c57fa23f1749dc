/- Layer 6: what lengths cost, in the program and in the law's own text. -/
import Derived.Test.YtjbohidkjlnalaaLens
namespace Go.Proofs.Ytjbohidkjlnalaa
open Go.RowKit

def Short (L : List Nat) : Prop := ∀ x ∈ L, x ≤ 1000
theorem short_ln {L : List Nat} (h : Short L) (i : Nat) : ln L i ≤ 1000 := by
  rcases Nat.lt_or_ge i L.length with h1 | h1
  · exact h _ (ln_mem L i h1)
  · simp [ln, h1]
def part (c L : List Nat) (k : Nat) : Nat := sumTo k (fun s => ln c s * ln L s)
theorem part_le {c L : List Nat} (hc : Low c) (hL : Short L) (k : Nat) : part c L k ≤ k * 1048576000 := by
  refine sumTo_le _ fun i _ => ?_
  have := Nat.mul_le_mul (ln_le hc i) (short_ln hL i)
  omega

set_option maxHeartbeats 2000000 in
theorem cost_yes (A AL : Option Addr) (n k kL B BL : Nat) (c L : List Nat) (w : World) (h : See w B A (ints c)) (hL : See w BL AL (ints L)) (hn : c.length = n) (hLn : L.length = n) (h288 : n ≤ 288) (hl : Low c) (hs : Short L) :
    Calls Try.prog 10 #[.slice A n k, .slice AL n kL] w fun e w' => e = .returned (.tuple #[.int .i64 (costOf c L : Nat), .int .i64 0]) ∧ w = w' := by
  have HAl := Lib.hid (allowed_yes A n k B c w h hn h288 hl)
  have HS := Lib.hid h
  have HSL := Lib.hid hL
  have HN := Lib.hid hn
  have HNL := Lib.hid hLn
  have HL := Lib.hid hl
  have HSh := Lib.hid hs
  clear h hL hn hLn hl hs
  go_enter Try.func10, Try.ntmps10
  go_wp2_with fail
  refine HAl.out.mono ?_
  rintro e w1 ⟨rfl, rfl⟩
  clear HAl
  go_wp2_with fail
  go_loopg [6, 21] n (fun gk v i wx => ∃ j s : Nat, i = .int .i64 j ∧ v = .int .i64 s ∧ j + gk ≤ n ∧ n ≤ j + gk ∧ Hid (part c L j = s) ∧ wx = w)
  case atStart => exact ⟨0, 0, rfl, rfl, by omega, by omega, Lib.hid rfl, rfl⟩
  case round =>
    obtain ⟨j, s, rfl, rfl, hg1, hg2, HP, rfl⟩ := hrel
    by_cases hlt : j < n
    · obtain ⟨b, off, rfl, _, hc⟩ := HS.out j _ (ints_at c j (by rw [HN.out]; exact hlt))
      obtain ⟨bL, offL, rfl, _, hcL⟩ := HSL.out j _ (ints_at L j (by rw [HNL.out]; exact hlt))
      have hx := ln_le HL.out j
      have hy := short_ln HSh.out j
      have hsum : part c L (j + 1) = s + ln c j * ln L j := by rw [← HP.out]; rfl
      have hb := part_le HL.out HSh.out (j + 1)
      have hm := Nat.mul_le_mul hx hy
      obtain ⟨x, hx1⟩ : ∃ x, ln c j = x := ⟨_, rfl⟩
      obtain ⟨y, hy1⟩ : ∃ y, ln L j = y := ⟨_, rfl⟩
      rw [hx1] at hc hsum hm
      rw [hy1] at hcL hsum hm hy
      obtain ⟨z, hz⟩ : ∃ z, x * y = z := ⟨_, rfl⟩
      have ez : (x : Int) * (y : Int) = (z : Int) := by rw [← hz]; simp
      rw [hz] at hsum hm
      rw [hsum] at hb
      have HSum := Lib.hid hsum
      have d1 : decide ((y : Int) < 0) = false := by simp
      have d2 : decide (1000 < (y : Int)) = false := by simp; omega
      clear hx1 hy1 hz hsum hx
      go_wp2_with fail
      go_roundg (gk - 1)
      case measure => omega
      case rel => exact ⟨j + 1, s + z, by go_num, by go_num, by omega, by omega, HSum, rfl⟩
    · obtain rfl : j = n := by omega
      go_wp2
      go_ret2
      exact ⟨by unfold costOf; rw [HN.out, show sumTo j (fun s => ln c s * ln L s) = s from HP.out]; rfl, rfl⟩

/-- What is refused: counts that may not be, another number of lengths, a length that may not be. -/
def CostNo (w : World) (e : Ending) (w' : World) : Prop := e = .returned (.tuple #[.int .i64 0, .int .i64 1]) ∧ w = w'
set_option maxHeartbeats 2000000 in
theorem cost_args (A AL : Option Addr) (n k nL kL : Nat) (b : Bool) (w : World) (h : Calls Try.prog 16 #[.slice A n k] w fun e w' => e = .returned (.bool b) ∧ w = w') (hb : b = false ∨ nL ≠ n) :
    Calls Try.prog 10 #[.slice A n k, .slice AL nL kL] w (CostNo w) := by
  have HAl := Lib.hid h
  clear h
  cases b with
  | false =>
    clear hb
    go_enter Try.func10, Try.ntmps10
    go_wp2_with fail
    refine HAl.out.mono ?_
    rintro e w1 ⟨rfl, rfl⟩
    go_wp2
    go_ret2
    exact ⟨rfl, rfl⟩
  | true =>
    have h1 : nL ≠ n := by rcases hb with h | h <;> simp_all
    have h2 : ¬ (nL : Int) = (n : Int) := by omega
    clear hb
    go_enter Try.func10, Try.ntmps10
    go_wp2_with fail
    refine HAl.out.mono ?_
    rintro e w1 ⟨rfl, rfl⟩
    go_wp2
    go_ret2
    exact ⟨rfl, rfl⟩

set_option maxHeartbeats 2000000 in
theorem cost_long (A AL : Option Addr) (n k kL B BL : Nat) (c : List Nat) (z : List Int) (w : World) (h : See w B A (ints c)) (hL : See w BL AL (zints z)) (hn : c.length = n) (hLn : z.length = n) (h288 : n ≤ 288) (hl : Low c) (hs : ¬ ∀ x ∈ z, 0 ≤ x ∧ x ≤ 1000) :
    Calls Try.prog 10 #[.slice A n k, .slice AL n kL] w (CostNo w) := by
  have HAl := Lib.hid (allowed_yes A n k B c w h hn h288 hl)
  have HS := Lib.hid h
  have HSL := Lib.hid hL
  have HN := Lib.hid hn
  have HNL := Lib.hid hLn
  have HL := Lib.hid hl
  have HSh := Lib.hid hs
  clear h hL hn hLn hl hs
  go_enter Try.func10, Try.ntmps10
  go_wp2_with fail
  refine HAl.out.mono ?_
  rintro e w1 ⟨rfl, rfl⟩
  clear HAl
  go_wp2_with fail
  go_loopg [6, 21] n (fun gk v i wx => ∃ j s : Nat, i = .int .i64 j ∧ v = .int .i64 s ∧ j + gk ≤ n ∧ n ≤ j + gk ∧ s ≤ j * 1048576000 ∧ Hid (∀ i, i < j → 0 ≤ z.getD i 0 ∧ z.getD i 0 ≤ 1000) ∧ wx = w)
  case atStart => exact ⟨0, 0, rfl, rfl, by omega, by omega, by omega, Lib.hid (fun i hi => by omega), rfl⟩
  case round =>
    obtain ⟨j, s, rfl, rfl, hg1, hg2, hsj, HJ, rfl⟩ := hrel
    by_cases hlt : j < n
    · obtain ⟨b, off, rfl, _, hc⟩ := HS.out j _ (ints_at c j (by rw [HN.out]; exact hlt))
      obtain ⟨bL, offL, rfl, _, hcL⟩ := HSL.out j _ (zints_at z j (by rw [HNL.out]; exact hlt))
      have hx := ln_le HL.out j
      obtain ⟨x, hx1⟩ : ∃ x, ln c j = x := ⟨_, rfl⟩
      obtain ⟨y, hy1⟩ : ∃ y, z.getD j 0 = y := ⟨_, rfl⟩
      rw [hx1] at hc hx
      rw [hy1] at hcL
      have HY := Lib.hid hy1
      clear hx1 hy1
      by_cases h1 : y < 0
      · have d1 : decide (y < 0) = true := by simpa using h1
        go_wp2
        go_ret2
        exact ⟨rfl, rfl⟩
      · have d1 : decide (y < 0) = false := by simpa using h1
        by_cases h2 : 1000 < y
        · have d2 : decide (1000 < y) = true := by simpa using h2
          go_wp2
          go_ret2
          exact ⟨rfl, rfl⟩
        · have d2 : decide (1000 < y) = false := by simpa using h2
          obtain ⟨y', rfl⟩ : ∃ y' : Nat, y = (y' : Int) := ⟨y.toNat, by omega⟩
          have hm := Nat.mul_le_mul hx (show y' ≤ 1000 by omega)
          obtain ⟨p, hp⟩ : ∃ p, x * y' = p := ⟨_, rfl⟩
          have ez : (x : Int) * (y' : Int) = (p : Int) := by rw [← hp]; simp
          rw [hp] at hm
          clear hp
          go_wp2_with fail
          go_roundg (gk - 1)
          case measure => omega
          case rel =>
            refine ⟨j + 1, s + p, by go_num, by go_num, by omega, by omega, by omega, Lib.hid fun i hi => ?_, rfl⟩
            rcases Nat.lt_or_ge i j with h3 | h3
            · exact HJ.out i h3
            · obtain rfl : i = j := by omega
              rw [HY.out]
              omega
    · exfalso
      refine HSh.out fun x hx => ?_
      obtain ⟨i, hi, rfl⟩ := List.getElem_of_mem hx
      have := HJ.out i (by have := HNL.out; omega)
      simpa [hi] using this

set_option maxHeartbeats 2000000 in
/-- The law's own cost. -/
theorem lawCost (A AL : Option Addr) (n k m kL B BL : Nat) (c L : List Nat) (w : World) (h : See w B A (ints c)) (hL : See w BL AL (ints L)) (hn : c.length = n) (hLn : L.length = m) (hnm : n ≤ m) (h288 : n ≤ 288) (hl : Low c) (hs : Short L) :
    Calls Try.prog 11 #[.slice A n k, .slice AL m kL] w fun e w' => e = .returned (.int .i64 (costOf c L : Nat)) ∧ Only (fun _ => False) w w' := by
  have HS := Lib.hid h
  have HSL := Lib.hid hL
  have HN := Lib.hid hn
  have HNL := Lib.hid hLn
  have HL := Lib.hid hl
  have HSh := Lib.hid hs
  clear h hL hn hLn hl hs
  go_enter Try.func11, Try.ntmps11
  go_wp2_with fail
  go_loopg [5, 9] n (fun gk v i wx => ∃ j s : Nat, i = .int .i64 j ∧ v = .int .i64 s ∧ j + gk ≤ n ∧ n ≤ j + gk ∧ Hid (part c L j = s) ∧ Hid (Only (fun _ => False) w wx))
  case atStart => exact ⟨0, 0, rfl, rfl, by omega, by omega, Lib.hid rfl, Lib.hid (Only.refl _ w)⟩
  case round =>
    obtain ⟨j, s, rfl, rfl, hg1, hg2, HP, HO⟩ := hrel
    by_cases hlt : j < n
    · obtain ⟨b, off, rfl, _, hc⟩ := (HS.out.new HO.out) j _ (ints_at c j (by rw [HN.out]; exact hlt))
      obtain ⟨bL, offL, rfl, _, hcL⟩ := (HSL.out.new HO.out) j _ (ints_at L j (by rw [HNL.out]; omega))
      have hx := ln_le HL.out j
      have hy := short_ln HSh.out j
      have hsum : part c L (j + 1) = s + ln c j * ln L j := by rw [← HP.out]; rfl
      have hb := part_le HL.out HSh.out (j + 1)
      have hm := Nat.mul_le_mul hx hy
      obtain ⟨x, hx1⟩ : ∃ x, ln c j = x := ⟨_, rfl⟩
      obtain ⟨y, hy1⟩ : ∃ y, ln L j = y := ⟨_, rfl⟩
      rw [hx1] at hc hsum hm
      rw [hy1] at hcL hsum hm hy
      obtain ⟨z, hz⟩ : ∃ z, x * y = z := ⟨_, rfl⟩
      have ez : (x : Int) * (y : Int) = (z : Int) := by rw [← hz]; simp
      rw [hz] at hsum hm
      rw [hsum] at hb
      obtain ⟨q, hq⟩ : ∃ q, s + z = q := ⟨_, rfl⟩
      have eq : (s : Int) + (z : Int) = (q : Int) := by omega
      have rz : IntKind.i64.wrap (z : Int) = (z : Int) := by rw [IntKind.wrap_i64]; omega
      have rq : IntKind.i64.wrap (q : Int) = (q : Int) := by rw [IntKind.wrap_i64]; omega
      rw [hq] at hsum
      have HSum := Lib.hid hsum
      have hc : ∀ nq, (wr.drewN nq).cell? ⟨b, off + j, none⟩ = some (.int .i64 (x : Int)) := fun _ => hc
      have hcL : ∀ nq, (wr.drewN nq).cell? ⟨bL, offL + j, none⟩ = some (.int .i64 (y : Int)) := fun _ => hcL
      clear hx1 hy1 hz hsum hx hq
      go_wp2_with fail
      go_quiet (fail)
      go_wp2_with fail
      go_roundg (gk - 1)
      case measure => omega
      case rel => exact ⟨j + 1, q, by go_num, rfl, by omega, by omega, HSum, Lib.hid (HO.out.drewN _)⟩
    · obtain rfl : j = n := by omega
      go_wp2
      go_ret
      exact ⟨by unfold costOf; rw [HN.out, show sumTo j (fun s => ln c s * ln L s) = s from HP.out]; rfl, HO.out⟩
end Go.Proofs.Ytjbohidkjlnalaa
