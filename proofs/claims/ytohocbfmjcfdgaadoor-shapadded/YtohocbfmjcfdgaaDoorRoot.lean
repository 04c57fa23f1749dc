/- Layer 4: the document's root of a prime. -/
import Derived.Test.YtohocbfmjcfdgaaDoorNum
namespace Go.Proofs.YtohocbfmjcfdgaaDoor
open Go.RowKit

def RootPost (w : World) (p pw : Nat) (e : Ending) (w' : World) : Prop := e = .returned (.int .u32 (rootOf pw p : Nat)) ∧ Only (fun _ => False) w w'
theorem Row.stay {e : TypeId} {w wx : World} {A : Option Addr} {n c : Nat} {l : List Value} (h : Row e w A n c l) (k : Only (fun _ => False) w wx) : Row e wx A n c l := h.only k fun _ _ f => f

set_option maxHeartbeats 1000000 in
theorem rroot (p pw : Nat) (w : World) (hp : p < 65536) (h1 : 1 ≤ pw) (h3 : pw ≤ 3) : Calls Tryd.prog 17 #[.int .u64 p, .int .i64 pw] w (RootPost w p pw) := by
  go_enter Tryd.func17, Tryd.ntmps17
  go_wp2_with fail
  refine (rdigits p w (by omega)).mono ?_
  rintro e w1 ⟨A1, c1, l1, rfl, hM1, hS1, hV1⟩
  have HI1 := Lib.hid (And.intro hM1.1 (And.intro hM1.2.1 (And.intro hS1 hV1)))
  clear hM1 hS1 hV1
  go_wp2_with fail
  go_loopg [6, 7] pw (fun gk vl vi wx => ∃ (i n c : Nat) (A : Option Addr) (l : List Nat), vl = .slice A n c ∧ vi = .int .i64 i ∧ i + gk ≤ pw ∧ pw ≤ i + gk ∧ n ≤ 4 + 4 * i ∧ Row 24 wx A n c (digs l) ∧ Only (fun _ => False) w wx ∧ Small l ∧ val l = p * 4294967296 ^ i)
  case atStart => exact ⟨0, 4, c1, A1, l1, rfl, rfl, by omega, by omega, by omega, HI1.out.1, HI1.out.2.1, HI1.out.2.2.1, by rw [HI1.out.2.2.2]; simp⟩
  case round =>
    obtain ⟨i, n, c, A, l, rfl, rfl, hk, hk2, hn, hR, hO, hS, hV⟩ := hrel
    clear HI1
    by_cases hlt : i < pw
    · have C := rtimes A (some ⟨wr.heap.size, 0, none⟩) n 3 c 3 l [0, 0, 1] (wr.alloc (.cells #[.int .u64 0, .int .u64 0, .int .u64 1] 24)) (hR.alloc _) (Row.of_is (Is.new wr 24 (digs [0, 0, 1])) rfl (by unfold maxLen; omega)) hS (by intro x hx; simp at hx; omega) (by omega) (by omega)
      have HC := Lib.hid C
      have HI := Lib.hid (And.intro hR (And.intro hO (And.intro hS hV)))
      clear C hR hO hS hV
      go_wp2_with fail
      refine HC.out.mono ?_
      rintro e w2 ⟨A2, c2, l2, rfl, hM2, hS2, hV2⟩
      have HI2 := Lib.hid (And.intro hM2.1 (And.intro hM2.2.1 (And.intro hS2 hV2)))
      clear hM2 hS2 hV2
      go_wp2_with fail
      go_roundg (gk - 1)
      case measure => omega
      case rel =>
        refine ⟨i + 1, n + 3 + 1, c2, A2, l2, rfl, by go_num, by omega, by omega, by omega, HI2.out.1, (HI.out.2.1.alloc _).trans HI2.out.2.1, HI2.out.2.2.1, ?_⟩
        rw [HI2.out.2.2.2, HI.out.2.2.2, Nat.pow_succ, ← Nat.mul_assoc]
        rfl
    · obtain rfl : i = pw := by omega
      obtain ⟨L, hL⟩ : ∃ L, p * 4294967296 ^ i = L := ⟨_, rfl⟩
      rw [hL] at hV
      have HL := Lib.hid hL
      have HR := Lib.hid hR
      have HO := Lib.hid hO
      have HS := Lib.hid (And.intro hS hV)
      clear hL hR hO hS hV
      go_wp2_with fail
      go_loopg [5, 8] 37 (fun gk vr vb wx => ∃ (j : Nat) (z : Int), vr = .int .u64 (climb L i j : Nat) ∧ vb = .int .i64 z ∧ z = 36 - (j : Int) ∧ j + gk ≤ 37 ∧ 37 ≤ j + gk ∧ Row 24 wx A n c (digs l) ∧ Only (fun _ => False) w wx)
      case atStart => exact ⟨0, 36, rfl, rfl, by omega, by omega, by omega, HR.out, HO.out⟩
      case round =>
        obtain ⟨j, z, rfl, rfl, hz, hj, hj2, hR, hO⟩ := hrel
        clear HR HO
        have HR := Lib.hid hR
        have HO := Lib.hid hO
        clear hR hO
        by_cases hjl : j < 37
        · obtain ⟨t, ht⟩ : ∃ t, 36 - j = t := ⟨_, rfl⟩
          obtain rfl : z = (t : Int) := by omega
          have hcl := climb_lt L i j (by omega)
          have h37 : 37 - j = t + 1 := by omega
          rw [h37, Nat.pow_succ] at hcl
          have hnx : climb L i (j + 1) = if (climb L i j + 2 ^ t) ^ i ≤ L then climb L i j + 2 ^ t else climb L i j := by rw [← ht]; rfl
          obtain ⟨r, hr⟩ : ∃ r, climb L i j = r := ⟨_, rfl⟩
          rw [hr] at hcl hnx ⊢
          obtain ⟨T, hT⟩ : ∃ T, 2 ^ t = T := ⟨_, rfl⟩
          have eT : (2 : Int) ^ t = (T : Int) := by rw [← hT]; simp
          rw [hT] at hcl hnx
          obtain ⟨m, hm⟩ : ∃ m, r + T = m := ⟨_, rfl⟩
          rw [hm] at hnx
          have em : (r : Int) + (T : Int) = (m : Int) := by omega
          have hml : m ≤ 137438953472 := by omega
          have hTl : (T : Int) ≤ 137438953472 := by omega
          have ht64 : t < 64 := by omega
          have C := rdigits m wr (by omega)
          have HC := Lib.hid C
          have HNX := Lib.hid hnx
          have HZ := Lib.hid hz
          clear C hnx hr hT hcl hm h37 hz
          go_wp2_with fail
          refine HC.out.mono ?_
          rintro e w2 ⟨Ax, cx, lx, rfl, hMx, hSx, hVx⟩
          have HX := Lib.hid hMx.1
          have HR2 := Lib.hid (HR.out.stay hMx.2.1)
          have HO2 := Lib.hid (HO.out.trans hMx.2.1)
          have HSX := Lib.hid (And.intro hSx hVx)
          clear hMx hSx hVx HC HR HO
          go_wp2_with fail
          go_loopg [11, 12] (i - 1) (fun gq vy vq wx => ∃ (q ny cy : Nat) (Ay : Option Addr) (ly : List Nat), vy = .slice Ay ny cy ∧ vq = .int .i64 q ∧ 1 ≤ q ∧ q + gq ≤ i ∧ i ≤ q + gq ∧ ny ≤ 5 * q ∧ Row 24 wx Ay ny cy (digs ly) ∧ Small ly ∧ val ly = m ^ q ∧ Row 24 wx Ax 4 cx (digs lx) ∧ Row 24 wx A n c (digs l) ∧ Only (fun _ => False) w wx)
          case atStart => exact ⟨1, 4, cx, Ax, lx, rfl, rfl, by omega, by omega, by omega, by omega, HX.out, HSX.out.1, by rw [HSX.out.2, Nat.pow_one], HX.out, HR2.out, HO2.out⟩
          case round =>
            obtain ⟨q, ny, cy, Ay, ly, rfl, rfl, hq1, hq, hq2, hny, hRy, hSy, hVy, hRx, hRl, hO⟩ := hrel
            clear HX HR2 HO2
            by_cases hql : q < i
            · have C := rtimes Ay Ax ny 4 cy cx ly lx wr hRy hRx hSy HSX.out.1 (by omega) (by omega)
              have HC := Lib.hid C
              have HI := Lib.hid (And.intro hVy (And.intro hRx (And.intro hRl hO)))
              clear C hRy hSy hVy hRx hRl hO
              go_wp2_with fail
              refine HC.out.mono ?_
              rintro e w3 ⟨A3, c3, l3, rfl, hM3, hS3, hV3⟩
              have HI3 := Lib.hid (And.intro hM3.1 (And.intro hM3.2.1 (And.intro hS3 hV3)))
              clear hM3 hS3 hV3
              go_wp2_with fail
              go_roundg (gk - 1)
              case measure => omega
              case rel =>
                refine ⟨q + 1, ny + 4 + 1, c3, A3, l3, rfl, by go_num, by omega, by omega, by omega, by omega, HI3.out.1, HI3.out.2.2.1, ?_, HI.out.2.1.stay HI3.out.2.1, HI.out.2.2.1.stay HI3.out.2.1, HI.out.2.2.2.trans HI3.out.2.1⟩
                rw [HI3.out.2.2.2, HI.out.1, HSX.out.2, Nat.pow_succ]
            · obtain rfl : q = i := by omega
              have C := ratMost Ay A ny n cy c ly l wr hRy hRl hSy HS.out.1 (by omega) (by omega)
              unfold MostPost at C
              rw [hVy, HS.out.2] at C
              have HR := Lib.hid hRl
              have HO := Lib.hid hO
              clear hRy hSy hVy hRx hRl hO
              by_cases hle : m ^ q ≤ L
              · have hd : decide (m ^ q ≤ L) = true := by simp [hle]
                rw [hd] at C
                have hnx := HNX.out
                rw [if_pos hle] at hnx
                clear HNX
                have HNX := Lib.hid hnx
                have HC := Lib.hid C
                clear C hd hle hnx
                go_wp2_with fail
                refine HC.out.mono ?_
                rintro e w3 ⟨rfl, rfl⟩
                go_wp2_with fail
                go_roundg (37 - (j + 1))
                case measure => omega
                case rel => exact ⟨j + 1, (t : Int) - 1, by rw [HNX.out], by go_num, by have := HZ.out; omega, by omega, by omega, HR.out, HO.out⟩
              · have hd : decide (m ^ q ≤ L) = false := by simp; omega
                rw [hd] at C
                have hnx := HNX.out
                rw [if_neg hle] at hnx
                clear HNX
                have HNX := Lib.hid hnx
                have HC := Lib.hid C
                clear C hd hle hnx
                go_wp2_with fail
                refine HC.out.mono ?_
                rintro e w3 ⟨rfl, rfl⟩
                go_wp2_with fail
                go_roundg (37 - (j + 1))
                case measure => omega
                case rel => exact ⟨j + 1, (t : Int) - 1, by rw [HNX.out], by go_num, by have := HZ.out; omega, by omega, by omega, HR.out, HO.out⟩
        · obtain rfl : j = 37 := by omega
          obtain rfl : z = -1 := by omega
          go_wp2
          go_ret
          refine ⟨?_, HO.out⟩
          unfold rootOf
          rw [HL.out]
          simp
end Go.Proofs.YtohocbfmjcfdgaaDoor
