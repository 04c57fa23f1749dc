/- The document's answer for layer 3: xor bit by bit, the table of all bytes, the CRC by it. -/
import Derived.Test.YtgjkfplfmkcjdaaDoorSum
namespace Go.Proofs.YtgjkfplfmkcjdaaDoor
open Go.RowKit

theorem xor_at (a b k : Nat) : (a ^^^ b) / 2 ^ k % 2 = (a / 2 ^ k % 2 + b / 2 ^ k % 2) % 2 := by
  rw [← xor_low]
  congr 1
  apply Nat.eq_of_testBit_eq
  intro i
  simp [Nat.testBit_div_two_pow]
theorem xor_more (a b k : Nat) : (a ^^^ b) % 2 ^ (k + 1) = (a ^^^ b) % 2 ^ k + 2 ^ k * ((a / 2 ^ k % 2 + b / 2 ^ k % 2) % 2) := by
  rw [← xor_at, Nat.pow_succ, Nat.mod_mul]

set_option maxHeartbeats 1000000 in
theorem rxor (a b : Nat) (w : World) (ha : a < 4294967296) (hb : b < 4294967296) : Calls Tryd.prog 18 #[.int .u32 a, .int .u32 b] w fun e w' => e = .returned (.int .u32 (a ^^^ b : Nat)) ∧ ∃ n, w.drewN n = w' := by
  go_enter Tryd.func18, Tryd.ntmps18
  go_wp2_with fail
  go_loopg [5, 6] 32 (fun gk o i wx => ∃ j n : Nat, i = .int .i64 j ∧ j + gk ≤ 32 ∧ 32 ≤ j + gk ∧ o = .int .u32 ((a ^^^ b) % 2 ^ j : Nat) ∧ wx = w.drewN n)
  case atStart => exact ⟨0, 0, rfl, by omega, by omega, by simp [Nat.mod_one], rfl⟩
  case round =>
    obtain ⟨j, n, rfl, hj, hj2, rfl, hwr⟩ := hrel
    have HW := Lib.hid hwr
    clear hwr
    have ea : (a : Int) / 2 ^ j = ((a / 2 ^ j : Nat) : Int) := by simp
    have eb : (b : Int) / 2 ^ j = ((b / 2 ^ j : Nat) : Int) := by simp
    have hmore := xor_more a b j
    obtain ⟨p, hp⟩ : ∃ p, a / 2 ^ j = p := ⟨_, rfl⟩
    obtain ⟨q, hq⟩ : ∃ q, b / 2 ^ j = q := ⟨_, rfl⟩
    obtain ⟨z, hz⟩ : ∃ z, (a ^^^ b) % 2 ^ j = z := ⟨_, rfl⟩
    have hzl : z < 2 ^ j := by rw [← hz]; exact Nat.mod_lt _ (Nat.pow_pos (by decide))
    rw [hp] at ea hmore
    rw [hq] at eb hmore
    rw [hz] at hmore ⊢
    have hpt : (p : Int).tmod 2 = ((p % 2 : Nat) : Int) := by rw [Int.tmod_eq_emod_of_nonneg (by omega)]; rfl
    have hqt : (q : Int).tmod 2 = ((q % 2 : Nat) : Int) := by rw [Int.tmod_eq_emod_of_nonneg (by omega)]; rfl
    have HM := Lib.hid hmore
    have HZL := Lib.hid hzl
    clear hp hq hmore hzl
    by_cases hlt : j < 32
    · have h2j : 2 ^ j ≤ 2 ^ 31 := Nat.pow_le_pow_right (by decide) (by omega)
      have H2 := Lib.hid h2j
      clear h2j
      by_cases he : p % 2 = q % 2
      · rw [he] at hpt
        have hz0 : (q % 2 + q % 2) % 2 = 0 := by omega
        rw [he, hz0] at HM
        clear hz0 he
        go_wp2_with fail
        go_quiet (fail)
        go_wp2_with fail
        go_roundg (gk - 1)
        case measure => omega
        case rel => exact ⟨j + 1, n + nq, by go_num, by omega, by omega, by rw [HM.out, Nat.mul_zero, Nat.add_zero], by rw [HW.out]; simp [World.drewN, Nat.add_assoc]⟩
      · have hne : (((p % 2 : Nat) : Int) != ((q % 2 : Nat) : Int)) = true := by rw [bne_iff_ne]; omega
        have hz1 : (p % 2 + q % 2) % 2 = 1 := by omega
        rw [hz1] at HM
        clear hz1 he
        go_wp2_with fail
        go_quiet (fail)
        go_wp2_with fail
        go_roundg (gk - 1)
        case measure => omega
        case rel =>
          refine ⟨j + 1, n + nq, by go_num, by omega, by omega, ?_, by rw [HW.out]; simp [World.drewN, Nat.add_assoc]⟩
          rw [HM.out, Nat.mul_one]
          have h2 := H2.out
          have h3 := HZL.out
          have h4 : ((2 : Int) ^ j) = ((2 ^ j : Nat) : Int) := by simp
          rw [h4]
          congr 1
          omega
    · obtain rfl : j = 32 := by omega
      have hz2 : z = a ^^^ b := by rw [← hz]; exact Nat.mod_eq_of_lt (Nat.xor_lt_two_pow (n := 32) ha hb)
      rw [hz2]
      clear hz hz2
      go_wp2
      go_ret
      exact ⟨rfl, n, HW.out.symm⟩

theorem Made.drewN {e : TypeId} {w wx : World} {A : Option Addr} {n c : Nat} {l : List Value} (h : Made e w A n c l wx) (k : Nat) : Made e w A n c l (wx.drewN k) := ⟨h.1.drewN k, h.2.1.drewN k, h.2.2⟩
theorem info27 : (Tryd.prog.info? 27).map (fun i => (i.zero, i.size, i.bytes)) = some (some (.int .u32 0), 1, 4) := by kernel_rfl

/-- What becomes of each of n bytes. -/
def tabv (n : Nat) : List Value := (List.range n).map fun i => .int .u32 (steps 8 i : Nat)
theorem tabv_succ (n : Nat) : tabv (n + 1) = tabv n ++ [.int .u32 (steps 8 n : Nat)] := by
  unfold tabv
  rw [List.range_succ, List.map_append]
  rfl

def TablePost (w : World) (e : Ending) (w' : World) : Prop := ∃ A n c, e = .returned (.slice A n c) ∧ n = 256 ∧ Made 27 w A n c (tabv n) w'

set_option maxHeartbeats 2000000 in
set_option maxRecDepth 10000 in
theorem rtable (w : World) : Calls Tryd.prog 15 #[] w (TablePost w) := by
  go_enter Tryd.func15, Tryd.ntmps15
  go_wp2_with fail
  go_loopg [1, 2] 256 (fun gk o i wx => ∃ (k : Nat) (A : Option Addr) (c : Nat), i = .int .i64 k ∧ o = .slice A k c ∧ k + gk ≤ 256 ∧ 256 ≤ k + gk ∧ Made 27 w A k c (tabv k) wx)
  case atStart => exact ⟨0, none, 0, rfl, rfl, by omega, by omega, Row.nil 27 w, Only.refl _ w, by rintro j ⟨ad, e, _⟩; cases e⟩
  case round =>
    obtain ⟨k, A, c, rfl, rfl, hk, hk2, hM⟩ := hrel
    have HM := Lib.hid hM
    clear hM
    by_cases hlt : k < 256
    · have d1 : decide ((k : Int) < 256) = true := by simp; omega
      go_wp2_with fail
      go_loopg [3, 4] 8 (fun gj x i wx => ∃ j : Nat, i = .int .i64 j ∧ x = .int .u32 (steps j k : Nat) ∧ j + gj ≤ 8 ∧ 8 ≤ j + gj ∧ Made 27 w A k c (tabv k) wx)
      case atStart => exact ⟨0, rfl, rfl, by omega, by omega, HM.out⟩
      case round =>
        obtain ⟨j, rfl, rfl, hj, hj2, hM⟩ := hrel
        clear HM
        have HM := Lib.hid hM
        clear hM
        have hcl : steps j k < 4294967296 := steps_lt (by omega) j
        have hst : step (steps j k) = steps (j + 1) k := (steps_succ j k).symm
        have hmod : steps j k % 2 = 0 ∨ steps j k % 2 = 1 := Nat.mod_two_eq_zero_or_one _
        have hS : step (steps j k) = if steps j k % 2 = 1 then steps j k / 2 ^^^ poly else steps j k / 2 := rfl
        rw [hst] at hS
        obtain ⟨x, hx⟩ : ∃ x, steps j k = x := ⟨_, rfl⟩
        rw [hx] at hcl hmod hS ⊢
        have HX := Lib.hid hx
        clear hx hst
        by_cases hjl : j < 8
        · rcases hmod with h0 | h1
          · rw [if_neg (by omega)] at hS
            have ht : (x : Int) % 2 = 0 := by omega
            have HS := Lib.hid hS
            clear hS h0
            go_wp2_with fail
            go_roundg (gk - 1)
            case measure => omega
            case rel => exact ⟨j + 1, by go_num, by rw [HS.out]; go_num, by omega, by omega, HM.out⟩
          · rw [if_pos h1] at hS
            have ht : (x : Int) % 2 = 1 := by omega
            have HS := Lib.hid hS
            clear hS h1
            have C := rxor (x / 2) poly wr (by omega) (by decide)
            have HC := Lib.hid C
            clear C
            go_wp2_with fail
            refine HC.out.mono ?_
            rintro e w1 ⟨rfl, n, hw1⟩
            have HM1 := Lib.hid (HM.out.drewN n)
            rw [hw1] at HM1
            clear hw1
            go_wp2_with fail
            go_roundg (gk - 1)
            case measure => omega
            case rel => exact ⟨j + 1, by go_num, by rw [HS.out], by omega, by omega, HM1.out⟩
        · obtain rfl : j = 8 := by omega
          clear hS hmod
          go_wp2_with (at_builtin
                       refine wpList_append_row rfl (.tmp 24) (.tmp 26) 40 40 27 rfl Tryd.underlying40 info27 A k c 1 _ [.int .u32 (x : Nat)] (.slice (some ⟨wr.heap.size, 0, none⟩) 1 1) rfl rfl (HM.out.1.alloc _) rfl (Src.oneInt Tryd.underlying40 wr .u32 (x : Nat) 1 27) (by omega) (by omega) ?_
                       intro A2 c2 w2 hrow2 honly2 hlies2
                       have HM2 := Lib.hid (HM.out.append hrow2 honly2 hlies2)
                       clear hrow2 honly2 hlies2)
          go_roundg (256 - (k + 1))
          case measure => omega
          case rel =>
            refine ⟨k + 1, A2, c2, by go_num, rfl, by omega, by omega, ?_⟩
            rw [tabv_succ, HX.out]
            exact HM2.out
    · go_wp2
      go_ret
      exact ⟨A, k, c, rfl, by omega, HM.out⟩

theorem tabv_at (i n : Nat) (h : i < n) : (tabv n)[i]? = some (.int .u32 (steps 8 i : Nat)) := by
  unfold tabv
  rw [List.getElem?_map, List.getElem?_range h]
  rfl
/-- Eight bits by the table of all bytes. -/
theorem full_step (c b : Nat) (h : c < 4294967296) (hb : b < 256) : bits .xor .u32 ((c : Int) / 256) (steps 8 (c % 256 ^^^ b) : Nat) = ((steps 8 (c ^^^ b) : Nat) : Int) := by
  have e := u32_xor_nat (c / 256) (steps 8 (c % 256 ^^^ b)) (by omega) (steps_lt (Nat.xor_lt_two_pow (n := 32) (by omega) (by omega)) 8)
  rw [steps_xor 8 c, steps_parts 8 c, Nat.xor_assoc, ← steps_xor]
  exact e

def RofPost (w : World) (s : ByteArray) (e : Ending) (w' : World) : Prop := e = .returned (.int .u32 (crc s.data.toList : Nat)) ∧ Below w.heap.size w w'

set_option maxHeartbeats 2000000 in
set_option maxRecDepth 10000 in
theorem rof (s : ByteArray) (w : World) (hs : s.size ≤ 1073741824) : Calls Tryd.prog 11 #[.string s] w (RofPost w s) := by
  have b1 : (s.size : Int) ≤ 1073741824 := by omega
  go_enter Tryd.func11, Tryd.ntmps11
  go_wp2_with fail
  refine (rtable w).mono ?_
  rintro e w1 ⟨A, n, cap, rfl, hn, hM⟩
  have HM := Lib.hid hM
  clear hM
  go_wp2_with fail
  go_loopg [4, 5] s.size (fun gk c i wx => ∃ k : Nat, i = .int .i64 k ∧ k + gk ≤ s.size ∧ s.size ≤ k + gk ∧ c = .int .u32 (run full (s.data.toList.take k) : Nat) ∧ wx = w1)
  case atStart => exact ⟨0, rfl, by omega, by omega, rfl, rfl⟩
  case round =>
    obtain ⟨k, rfl, hk, hk2, rfl, rfl⟩ := hrel
    have hcl := run_lt (s.data.toList.take k) full (by decide)
    by_cases hlt : k < s.size
    · obtain ⟨x, hx⟩ : ∃ x, s[k] = x := ⟨_, rfl⟩
      have hx2 : s.data.toList[k]? = some x := by rw [← hx, List.getElem?_eq_getElem (by simpa using hlt)]; rfl
      have hxl : x.toNat < 256 := x.toNat_lt
      have hnx := run_snoc s.data.toList full k (by simpa using hlt)
      rw [hx2, Option.getD_some] at hnx
      obtain ⟨c, hc⟩ : ∃ c, run full (s.data.toList.take k) = c := ⟨_, rfl⟩
      rw [hc] at hnx hcl ⊢
      have g1 := u32_xor_nat (c % 256) x.toNat (by omega) (by omega)
      have hl1 : c % 256 ^^^ x.toNat < 256 := Nat.xor_lt_two_pow (n := 8) (by omega) hxl
      have g2 := full_step c x.toNat hcl hxl
      rw [← hnx] at g2
      obtain ⟨q, hq⟩ : ∃ q, c % 256 ^^^ x.toNat = q := ⟨_, rfl⟩
      rw [hq] at g1 g2 hl1
      obtain ⟨g, hA, g3⟩ := HM.out.1.cell (tabv_at q n (by omega))
      subst hA
      have g1' : bits .xor .u32 ((c : Int) % 256) (x.toNat : Int) = (q : Int) := g1
      clear hx2 hnx hc hq g1
      go_wp2_with fail
      go_roundg (gk - 1)
      case measure => omega
      case rel => exact ⟨k + 1, by go_num, by omega, by omega, rfl, rfl⟩
    · obtain rfl : k = s.size := by omega
      have e : s.data.toList.take s.size = s.data.toList := List.take_of_length_le (by simp)
      rw [e] at hcl ⊢
      have h2 : bits .xor .u32 ((run full s.data.toList : Nat) : Int) 4294967295 = ((crc s.data.toList : Nat) : Int) := u32_xor_nat _ 4294967295 hcl (by decide)
      clear e
      go_wp2
      go_ret
      exact ⟨rfl, HM.out.2.1.below _ (Nat.le_refl _) (fun _ _ h => h)⟩
end Go.Proofs.YtgjkfplfmkcjdaaDoor
