/- The document's writer of layer 1: Put, Align, Write on a list of bits. -/
import Derived.Test.YthocfdkheikeoaaRefText
import Derived.Deep.RegionHeld3
namespace Go.Proofs.Ythocfdkheikeoaa
open Go.RowKit

/-- The document's writer: its bits are l. -/
def RW (w : World) (b : Nat) (A : Option Addr) (n c : Nat) (l : List UInt8) : Prop := Is w b 44 [.slice A n c] ∧ Row 5 w A n c l

/-- What it comes to: bits l; nothing has turned but itself and its row. -/
def RWPost (b : Nat) (A : Option Addr) (l : List UInt8) (w : World) (wx : World) : Prop :=
  ∃ A' n' c', RW wx b A' n' c' l ∧ Only (fun j => j = b ∨ Lies A j) w wx ∧ (A' = A ∨ ∃ g, A' = some ⟨g, 0, none⟩ ∧ w.heap.size ≤ g)

theorem RWPost.refl {w : World} {b : Nat} {A : Option Addr} {n c : Nat} {l : List UInt8} (h : RW w b A n c l) : RWPost b A l w w := ⟨A, n, c, h, Only.refl _ w, .inl rfl⟩

/-- One byte is appended and stored back. -/
theorem RWPost.step {w wx w2 : World} {b : Nat} {A A1 A2 : Option Addr} {n1 c1 n2 c2 : Nat} {l l2 : List UInt8} {o : Obj} (h1 : RW wx b A1 n1 c1 l) (ho : Only (fun j => j = b ∨ Lies A j) w wx) (ha : A1 = A ∨ ∃ g, A1 = some ⟨g, 0, none⟩ ∧ w.heap.size ≤ g)
    (hr : Row 5 w2 A2 n2 c2 l2) (ho2 : Only (Lies A1) (wx.alloc o) w2) (ha2 : A2 = A1 ∨ A2 = some ⟨(wx.alloc o).heap.size, 0, none⟩) :
    Is w2 b 44 [.slice A1 n1 c1] ∧ RW (w2.setCell ⟨b, 0, none⟩ (.slice A2 n2 c2)) b A2 n2 c2 l2 ∧ Only (fun j => j = b ∨ Lies A j) w (w2.setCell ⟨b, 0, none⟩ (.slice A2 n2 c2)) ∧ (A2 = A ∨ ∃ g, A2 = some ⟨g, 0, none⟩ ∧ w.heap.size ≤ g) := by
  have hI2 : Is w2 b 44 [.slice A1 n1 c1] := (h1.1.alloc o).only ho2 (h1.2.ne h1.1 (by decide))
  have hlow : ∀ j, Lies A1 j → (j = b ∨ Lies A j) ∨ w.heap.size ≤ j := by
    rintro j ⟨ad, e1, e2⟩
    rcases ha with e3 | ⟨g, e3, e4⟩
    · exact .inl (.inr ⟨ad, e3 ▸ e1, e2⟩)
    · rw [e3] at e1
      obtain rfl := Option.some.inj e1
      exact .inr (by rw [← e2]; exact e4)
  refine ⟨hI2, ⟨hI2.set 0 _, hr.only (Only.one w2 b 0 _) ?_⟩, ?_, ?_⟩
  · rintro j hj rfl
    exact hr.ne hI2 (by decide) hj
  · exact ((ho.alloc o).andThen ho2 hlow).andThen (Only.one w2 b 0 _) (fun j e => .inl (.inl e))
  · rcases ha2 with e | e
    · rw [e]; exact ha
    · refine .inr ⟨_, e, ?_⟩
      have := ho.size
      simp
      omega

set_option maxHeartbeats 1000000 in
theorem rput (b : Nat) (A : Option Addr) (n c v : Nat) (m : Int) (l : List UInt8) (w : World) (h : RW w b A n c l) (hn : n ≤ 1073741824) (hv : v < 4294967296) :
    Calls Try.prog 21 #[.pointer (some ⟨b, 0, none⟩), .int .u32 v, .int .i64 m] w fun e w' => e = .returned (.tuple #[]) ∧ RWPost b A (l ++ nb v (clamp m)) w w' := by
  have HI := Lib.hid h
  have hcm := clamp_le m
  have hc1 : ∀ j : Nat, j < clamp m → (j : Int) < m := by intro j hj; unfold clamp at hj; omega
  have hc2 : ∀ j : Nat, j < 32 → ¬ j < clamp m → ¬ (j : Int) < m := by intro j hj hj2; unfold clamp at hj2; omega
  have HC1 := Lib.hid hc1
  have HC2 := Lib.hid hc2
  clear h hc1 hc2
  go_enter Try.func21, Try.ntmps21
  go_wp2_with fail
  go_loopg [1, 6] (clamp m) (fun gk x i wx => ∃ (j : Nat) (A' : Option Addr) (c' : Nat), i = .int .i64 j ∧ x = .int .u32 (v / 2 ^ j : Nat) ∧ j + gk ≤ clamp m ∧ clamp m ≤ j + gk ∧ RW wx b A' (n + j) c' (l ++ nb v j) ∧ Only (fun j => j = b ∨ Lies A j) w wx ∧ (A' = A ∨ ∃ g, A' = some ⟨g, 0, none⟩ ∧ w.heap.size ≤ g))
  case atStart => exact ⟨0, A, c, rfl, by simp, by omega, by omega, by simpa [nb] using HI.out, Only.refl _ w, .inl rfl⟩
  case round =>
    obtain ⟨j, A', c', rfl, rfl, hj, hj2, hw', ho', ha'⟩ := hrel
    have c0' := hw'.1.cell 0 rfl
    have f0' := hw'.1.frozen 0
    have HW' := Lib.hid hw'
    have HO' := Lib.hid ho'
    have HA' := Lib.hid ha'
    have hq : v / 2 ^ j < 4294967296 := Nat.lt_of_le_of_lt (Nat.div_le_self _ _) hv
    obtain ⟨q, hq1⟩ : ∃ q, v / 2 ^ j = q := ⟨_, rfl⟩
    rw [hq1] at hq ⊢
    have HQ := Lib.hid hq1
    clear hw' ho' ha' hq1
    by_cases hlt : j < clamp m
    · have d1 : decide ((j : Int) < m) = true := by simpa using HC1.out j hlt
      have d2 : decide ((j : Int) < 32) = true := by simp; omega
      obtain ⟨cb, hby, hcb⟩ : ∃ cb : UInt8, (q : Int) % 2 = (cb.toNat : Int) ∧ cb = UInt8.ofNat (q % 2) := ⟨UInt8.ofNat (q % 2), by rw [UInt8.toNat_ofNat']; omega, rfl⟩
      have Hcb := Lib.hid hcb
      clear hcb
      go_wp2_with (at_builtin
                   refine wpList_append_row rfl (.tmp 20) (.tmp 24) 27 27 5 rfl Try.underlying27 info5 A' (n + j) c' 1 _ [cb] (.slice (some ⟨wr.heap.size, 0, none⟩) 1 1) rfl rfl (HW'.out.2.alloc _) rfl (Src.oneByte Try.underlying27 wr cb 1 5) (by omega) ?_
                   intro A2 c2 w2 hrow2 honly2 hlies2
                   have hS := RWPost.step HW'.out HO'.out HA'.out hrow2 honly2 hlies2
                   have c0'' := hS.1.cell 0 rfl
                   have f0'' := hS.1.frozen 0
                   have HS := Lib.hid hS
                   clear hrow2 honly2 hlies2 hS)
      go_roundg (gk - 1)
      case measure => omega
      case rel =>
        refine ⟨j + 1, A2, c2, by go_num, ?_, by omega, by omega, ?_, HS.out.2.2.1, HS.out.2.2.2⟩
        · have : v / 2 ^ (j + 1) = q / 2 := by rw [Nat.pow_succ, ← Nat.div_div_eq_div_mul, HQ.out]
          rw [this]
          go_num
        · rw [nb_succ, ← List.append_assoc, HQ.out, ← Hcb.out]
          exact HS.out.2.1
    · have fin : RWPost b A (l ++ nb v (clamp m)) w wr := by
        rw [show clamp m = j by omega]
        exact ⟨A', n + j, c', HW'.out, HO'.out, HA'.out⟩
      have HF := Lib.hid fin
      by_cases h32 : j < 32
      · have d1 : decide ((j : Int) < m) = false := by simpa using HC2.out j h32 hlt
        clear fin
        go_wp2
        go_end0
        exact ⟨rfl, HF.out⟩
      · have d2 : decide ((j : Int) < 32) = false := by simp; omega
        clear fin
        by_cases d1 : (j : Int) < m
        · have d1' : decide ((j : Int) < m) = true := by simpa using d1
          go_wp2
          go_end0
          exact ⟨rfl, HF.out⟩
        · have d1' : decide ((j : Int) < m) = false := by simpa using d1
          go_wp2
          go_end0
          exact ⟨rfl, HF.out⟩

set_option maxHeartbeats 1000000 in
theorem ralign (b : Nat) (A : Option Addr) (n c : Nat) (l : List UInt8) (w : World) (h : RW w b A n c l) (hn : n ≤ 1073741824) :
    Calls Try.prog 23 #[.pointer (some ⟨b, 0, none⟩)] w fun e w' => e = .returned (.tuple #[]) ∧ RWPost b A (l ++ List.replicate ((n + 7) / 8 * 8 - n) 0) w w' := by
  have HI := Lib.hid h
  clear h
  obtain ⟨z, hz⟩ : ∃ z, (n + 7) / 8 * 8 - n = z := ⟨_, rfl⟩
  have hz1 : (n + z) % 8 = 0 := by omega
  have hz2 : z ≤ 7 := by omega
  have hz3 : ∀ j, j < z → (n + j) % 8 ≠ 0 := by intro j hj; omega
  rw [hz]
  have HZ1 := Lib.hid hz1
  have HZ3 := Lib.hid hz3
  clear hz hz1 hz3
  go_enter Try.func23, Try.ntmps23
  go_wp2_with fail
  go_loopg [] z (fun gk wx => ∃ (j : Nat) (A' : Option Addr) (c' : Nat), j + gk ≤ z ∧ z ≤ j + gk ∧ RW wx b A' (n + j) c' (l ++ List.replicate j 0) ∧ Only (fun j => j = b ∨ Lies A j) w wx ∧ (A' = A ∨ ∃ g, A' = some ⟨g, 0, none⟩ ∧ w.heap.size ≤ g))
  case atStart => exact ⟨0, A, c, by omega, by omega, by simpa using HI.out, Only.refl _ w, .inl rfl⟩
  case round =>
    obtain ⟨j, A', c', hj, hj2, hw', ho', ha'⟩ := hrel
    have c0' := hw'.1.cell 0 rfl
    have f0' := hw'.1.frozen 0
    have HW' := Lib.hid hw'
    have HO' := Lib.hid ho'
    have HA' := Lib.hid ha'
    clear hw' ho' ha'
    by_cases hlt : j < z
    · have d1 : (((n : Int) + j) % 8 != 0) = true := by rw [bne_iff_ne]; have := HZ3.out j hlt; omega
      go_wp2_with (at_builtin
                   refine wpList_append_row rfl (.tmp 13) (.tmp 14) 27 27 5 rfl Try.underlying27 info5 A' (n + j) c' 1 _ [0] (.slice (some ⟨wr.heap.size, 0, none⟩) 1 1) rfl rfl (HW'.out.2.alloc _) rfl (Src.oneByte Try.underlying27 wr 0 1 5) (by omega) ?_
                   intro A2 c2 w2 hrow2 honly2 hlies2
                   have hS := RWPost.step HW'.out HO'.out HA'.out hrow2 honly2 hlies2
                   have c0'' := hS.1.cell 0 rfl
                   have f0'' := hS.1.frozen 0
                   have HS := Lib.hid hS
                   clear hrow2 honly2 hlies2 hS)
      go_roundg (gk - 1)
      case measure => omega
      case rel =>
        refine ⟨j + 1, A2, c2, by omega, by omega, ?_, HS.out.2.2.1, HS.out.2.2.2⟩
        rw [List.replicate_succ', ← List.append_assoc]
        exact HS.out.2.1
    · have d1 : (((n : Int) + j) % 8 != 0) = false := by rw [bne_eq_false_iff_eq]; have := HZ1.out; omega
      have fin : RWPost b A (l ++ List.replicate z 0) w wr := by
        rw [show z = j by omega]
        exact ⟨A', n + j, c', HW'.out, HO'.out, HA'.out⟩
      have HF := Lib.hid fin
      clear fin
      go_wp2
      go_end0
      exact ⟨rfl, HF.out⟩
end Go.Proofs.Ythocfdkheikeoaa
