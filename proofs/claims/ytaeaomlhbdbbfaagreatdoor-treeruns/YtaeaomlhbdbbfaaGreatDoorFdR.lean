/- Layer 14, the document: the small letter, its bytes, a text folded. -/
import Derived.Test.YtaeaomlhbdbbfaaGreatDoorFdM
import Derived.Test.YtaeaomlhbdbbfaaGreatDoorRtA
namespace Go.Proofs.YtaeaomlhbdbbfaaGreatDoor
open Go.RowKit

set_option maxHeartbeats 8000000 in
theorem rsmall (c : Int) (w : World) (h1 : -9223372036854775808 ≤ c) (h2 : c ≤ 9223372036854775807) : Calls Tryz.prog 78 #[.int .i64 c] w fun e w' => e = .returned (.int .i64 (smallI c)) ∧ w' = w := by
  have HC : (c < 65) ∨ (65 ≤ c ∧ c ≤ 90) ∨ (90 < c ∧ c < 192) ∨ (c = 215) ∨ (192 ≤ c ∧ c ≤ 222 ∧ c ≠ 215) ∨ (222 < c ∧ c < 913) ∨ (c = 930) ∨ (913 ≤ c ∧ c ≤ 937 ∧ c ≠ 930) ∨ (937 < c ∧ c < 1024) ∨ (1024 ≤ c ∧ c ≤ 1039) ∨ (1040 ≤ c ∧ c ≤ 1071) ∨ (1071 < c) := by omega
  rcases HC with hc | hc | hc | hc | hc | hc | hc | hc | hc | hc | hc | hc
  · have d0 : decide ((65 : Int) ≤ c) = false := decide_eq_false (by omega)
    have d1 : decide (c ≤ (90 : Int)) = true := decide_eq_true (by omega)
    have d2 : decide ((192 : Int) ≤ c) = false := decide_eq_false (by omega)
    have d3 : decide (c ≤ (222 : Int)) = true := decide_eq_true (by omega)
    have n4 : ¬ c = 215 := by omega
    have d4 : (c == (215 : Int)) = false := by rw [beq_eq_false_iff_ne]; omega
    have d5 : decide ((913 : Int) ≤ c) = false := decide_eq_false (by omega)
    have d6 : decide (c ≤ (937 : Int)) = true := decide_eq_true (by omega)
    have n7 : ¬ c = 930 := by omega
    have d7 : (c == (930 : Int)) = false := by rw [beq_eq_false_iff_ne]; omega
    have d8 : decide ((1040 : Int) ≤ c) = false := decide_eq_false (by omega)
    have d9 : decide (c ≤ (1071 : Int)) = true := decide_eq_true (by omega)
    have d10 : decide ((1024 : Int) ≤ c) = false := decide_eq_false (by omega)
    have d11 : decide (c ≤ (1039 : Int)) = true := decide_eq_true (by omega)
    have e : smallI c = c := by
      unfold smallI
      rw [if_neg (by omega), if_neg (by omega)]
    rw [e]
    clear e hc
    go_enter Tryz.func78, Tryz.ntmps78
    go_wp2
    go_ret
    exact ⟨rfl, rfl⟩
  · have d0 : decide ((65 : Int) ≤ c) = true := decide_eq_true (by omega)
    have d1 : decide (c ≤ (90 : Int)) = true := decide_eq_true (by omega)
    have d2 : decide ((192 : Int) ≤ c) = false := decide_eq_false (by omega)
    have d3 : decide (c ≤ (222 : Int)) = true := decide_eq_true (by omega)
    have n4 : ¬ c = 215 := by omega
    have d4 : (c == (215 : Int)) = false := by rw [beq_eq_false_iff_ne]; omega
    have d5 : decide ((913 : Int) ≤ c) = false := decide_eq_false (by omega)
    have d6 : decide (c ≤ (937 : Int)) = true := decide_eq_true (by omega)
    have n7 : ¬ c = 930 := by omega
    have d7 : (c == (930 : Int)) = false := by rw [beq_eq_false_iff_ne]; omega
    have d8 : decide ((1040 : Int) ≤ c) = false := decide_eq_false (by omega)
    have d9 : decide (c ≤ (1071 : Int)) = true := decide_eq_true (by omega)
    have d10 : decide ((1024 : Int) ≤ c) = false := decide_eq_false (by omega)
    have d11 : decide (c ≤ (1039 : Int)) = true := decide_eq_true (by omega)
    have e : smallI c = c + 32 := if_pos (by omega)
    rw [e]
    obtain ⟨c2, hc2⟩ : ∃ c2, c + 32 = c2 := ⟨_, rfl⟩
    rw [hc2]
    have hb : -9223372036854775808 ≤ c2 ∧ c2 ≤ 9223372036854775807 := by omega
    clear e hc
    go_enter Tryz.func78, Tryz.ntmps78
    go_wp2
    go_ret
    exact ⟨rfl, rfl⟩
  · have d0 : decide ((65 : Int) ≤ c) = true := decide_eq_true (by omega)
    have d1 : decide (c ≤ (90 : Int)) = false := decide_eq_false (by omega)
    have d2 : decide ((192 : Int) ≤ c) = false := decide_eq_false (by omega)
    have d3 : decide (c ≤ (222 : Int)) = true := decide_eq_true (by omega)
    have n4 : ¬ c = 215 := by omega
    have d4 : (c == (215 : Int)) = false := by rw [beq_eq_false_iff_ne]; omega
    have d5 : decide ((913 : Int) ≤ c) = false := decide_eq_false (by omega)
    have d6 : decide (c ≤ (937 : Int)) = true := decide_eq_true (by omega)
    have n7 : ¬ c = 930 := by omega
    have d7 : (c == (930 : Int)) = false := by rw [beq_eq_false_iff_ne]; omega
    have d8 : decide ((1040 : Int) ≤ c) = false := decide_eq_false (by omega)
    have d9 : decide (c ≤ (1071 : Int)) = true := decide_eq_true (by omega)
    have d10 : decide ((1024 : Int) ≤ c) = false := decide_eq_false (by omega)
    have d11 : decide (c ≤ (1039 : Int)) = true := decide_eq_true (by omega)
    have e : smallI c = c := by
      unfold smallI
      rw [if_neg (by omega), if_neg (by omega)]
    rw [e]
    clear e hc
    go_enter Tryz.func78, Tryz.ntmps78
    go_wp2
    go_ret
    exact ⟨rfl, rfl⟩
  · subst hc
    have e : smallI 215 = 215 := by decide
    rw [e]
    clear e h1 h2
    go_enter Tryz.func78, Tryz.ntmps78
    go_wp2
    go_ret
    exact ⟨rfl, rfl⟩
  · have d0 : decide ((65 : Int) ≤ c) = true := decide_eq_true (by omega)
    have d1 : decide (c ≤ (90 : Int)) = false := decide_eq_false (by omega)
    have d2 : decide ((192 : Int) ≤ c) = true := decide_eq_true (by omega)
    have d3 : decide (c ≤ (222 : Int)) = true := decide_eq_true (by omega)
    have n4 : ¬ c = 215 := by omega
    have d4 : (c == (215 : Int)) = false := by rw [beq_eq_false_iff_ne]; omega
    have d5 : decide ((913 : Int) ≤ c) = false := decide_eq_false (by omega)
    have d6 : decide (c ≤ (937 : Int)) = true := decide_eq_true (by omega)
    have n7 : ¬ c = 930 := by omega
    have d7 : (c == (930 : Int)) = false := by rw [beq_eq_false_iff_ne]; omega
    have d8 : decide ((1040 : Int) ≤ c) = false := decide_eq_false (by omega)
    have d9 : decide (c ≤ (1071 : Int)) = true := decide_eq_true (by omega)
    have d10 : decide ((1024 : Int) ≤ c) = false := decide_eq_false (by omega)
    have d11 : decide (c ≤ (1039 : Int)) = true := decide_eq_true (by omega)
    have e : smallI c = c + 32 := if_pos (by omega)
    rw [e]
    obtain ⟨c2, hc2⟩ : ∃ c2, c + 32 = c2 := ⟨_, rfl⟩
    rw [hc2]
    have hb : -9223372036854775808 ≤ c2 ∧ c2 ≤ 9223372036854775807 := by omega
    clear e hc
    go_enter Tryz.func78, Tryz.ntmps78
    go_wp2
    go_ret
    exact ⟨rfl, rfl⟩
  · have d0 : decide ((65 : Int) ≤ c) = true := decide_eq_true (by omega)
    have d1 : decide (c ≤ (90 : Int)) = false := decide_eq_false (by omega)
    have d2 : decide ((192 : Int) ≤ c) = true := decide_eq_true (by omega)
    have d3 : decide (c ≤ (222 : Int)) = false := decide_eq_false (by omega)
    have n4 : ¬ c = 215 := by omega
    have d4 : (c == (215 : Int)) = false := by rw [beq_eq_false_iff_ne]; omega
    have d5 : decide ((913 : Int) ≤ c) = false := decide_eq_false (by omega)
    have d6 : decide (c ≤ (937 : Int)) = true := decide_eq_true (by omega)
    have n7 : ¬ c = 930 := by omega
    have d7 : (c == (930 : Int)) = false := by rw [beq_eq_false_iff_ne]; omega
    have d8 : decide ((1040 : Int) ≤ c) = false := decide_eq_false (by omega)
    have d9 : decide (c ≤ (1071 : Int)) = true := decide_eq_true (by omega)
    have d10 : decide ((1024 : Int) ≤ c) = false := decide_eq_false (by omega)
    have d11 : decide (c ≤ (1039 : Int)) = true := decide_eq_true (by omega)
    have e : smallI c = c := by
      unfold smallI
      rw [if_neg (by omega), if_neg (by omega)]
    rw [e]
    clear e hc
    go_enter Tryz.func78, Tryz.ntmps78
    go_wp2
    go_ret
    exact ⟨rfl, rfl⟩
  · subst hc
    have e : smallI 930 = 930 := by decide
    rw [e]
    clear e h1 h2
    go_enter Tryz.func78, Tryz.ntmps78
    go_wp2
    go_ret
    exact ⟨rfl, rfl⟩
  · have d0 : decide ((65 : Int) ≤ c) = true := decide_eq_true (by omega)
    have d1 : decide (c ≤ (90 : Int)) = false := decide_eq_false (by omega)
    have d2 : decide ((192 : Int) ≤ c) = true := decide_eq_true (by omega)
    have d3 : decide (c ≤ (222 : Int)) = false := decide_eq_false (by omega)
    have n4 : ¬ c = 215 := by omega
    have d4 : (c == (215 : Int)) = false := by rw [beq_eq_false_iff_ne]; omega
    have d5 : decide ((913 : Int) ≤ c) = true := decide_eq_true (by omega)
    have d6 : decide (c ≤ (937 : Int)) = true := decide_eq_true (by omega)
    have n7 : ¬ c = 930 := by omega
    have d7 : (c == (930 : Int)) = false := by rw [beq_eq_false_iff_ne]; omega
    have d8 : decide ((1040 : Int) ≤ c) = false := decide_eq_false (by omega)
    have d9 : decide (c ≤ (1071 : Int)) = true := decide_eq_true (by omega)
    have d10 : decide ((1024 : Int) ≤ c) = false := decide_eq_false (by omega)
    have d11 : decide (c ≤ (1039 : Int)) = true := decide_eq_true (by omega)
    have e : smallI c = c + 32 := if_pos (by omega)
    rw [e]
    obtain ⟨c2, hc2⟩ : ∃ c2, c + 32 = c2 := ⟨_, rfl⟩
    rw [hc2]
    have hb : -9223372036854775808 ≤ c2 ∧ c2 ≤ 9223372036854775807 := by omega
    clear e hc
    go_enter Tryz.func78, Tryz.ntmps78
    go_wp2
    go_ret
    exact ⟨rfl, rfl⟩
  · have d0 : decide ((65 : Int) ≤ c) = true := decide_eq_true (by omega)
    have d1 : decide (c ≤ (90 : Int)) = false := decide_eq_false (by omega)
    have d2 : decide ((192 : Int) ≤ c) = true := decide_eq_true (by omega)
    have d3 : decide (c ≤ (222 : Int)) = false := decide_eq_false (by omega)
    have n4 : ¬ c = 215 := by omega
    have d4 : (c == (215 : Int)) = false := by rw [beq_eq_false_iff_ne]; omega
    have d5 : decide ((913 : Int) ≤ c) = true := decide_eq_true (by omega)
    have d6 : decide (c ≤ (937 : Int)) = false := decide_eq_false (by omega)
    have n7 : ¬ c = 930 := by omega
    have d7 : (c == (930 : Int)) = false := by rw [beq_eq_false_iff_ne]; omega
    have d8 : decide ((1040 : Int) ≤ c) = false := decide_eq_false (by omega)
    have d9 : decide (c ≤ (1071 : Int)) = true := decide_eq_true (by omega)
    have d10 : decide ((1024 : Int) ≤ c) = false := decide_eq_false (by omega)
    have d11 : decide (c ≤ (1039 : Int)) = true := decide_eq_true (by omega)
    have e : smallI c = c := by
      unfold smallI
      rw [if_neg (by omega), if_neg (by omega)]
    rw [e]
    clear e hc
    go_enter Tryz.func78, Tryz.ntmps78
    go_wp2
    go_ret
    exact ⟨rfl, rfl⟩
  · have d0 : decide ((65 : Int) ≤ c) = true := decide_eq_true (by omega)
    have d1 : decide (c ≤ (90 : Int)) = false := decide_eq_false (by omega)
    have d2 : decide ((192 : Int) ≤ c) = true := decide_eq_true (by omega)
    have d3 : decide (c ≤ (222 : Int)) = false := decide_eq_false (by omega)
    have n4 : ¬ c = 215 := by omega
    have d4 : (c == (215 : Int)) = false := by rw [beq_eq_false_iff_ne]; omega
    have d5 : decide ((913 : Int) ≤ c) = true := decide_eq_true (by omega)
    have d6 : decide (c ≤ (937 : Int)) = false := decide_eq_false (by omega)
    have n7 : ¬ c = 930 := by omega
    have d7 : (c == (930 : Int)) = false := by rw [beq_eq_false_iff_ne]; omega
    have d8 : decide ((1040 : Int) ≤ c) = false := decide_eq_false (by omega)
    have d9 : decide (c ≤ (1071 : Int)) = true := decide_eq_true (by omega)
    have d10 : decide ((1024 : Int) ≤ c) = true := decide_eq_true (by omega)
    have d11 : decide (c ≤ (1039 : Int)) = true := decide_eq_true (by omega)
    have e : smallI c = c + 80 := by
      unfold smallI
      rw [if_neg (by omega), if_pos (by omega)]
    rw [e]
    obtain ⟨c2, hc2⟩ : ∃ c2, c + 80 = c2 := ⟨_, rfl⟩
    rw [hc2]
    have hb : -9223372036854775808 ≤ c2 ∧ c2 ≤ 9223372036854775807 := by omega
    clear e hc
    go_enter Tryz.func78, Tryz.ntmps78
    go_wp2
    go_ret
    exact ⟨rfl, rfl⟩
  · have d0 : decide ((65 : Int) ≤ c) = true := decide_eq_true (by omega)
    have d1 : decide (c ≤ (90 : Int)) = false := decide_eq_false (by omega)
    have d2 : decide ((192 : Int) ≤ c) = true := decide_eq_true (by omega)
    have d3 : decide (c ≤ (222 : Int)) = false := decide_eq_false (by omega)
    have n4 : ¬ c = 215 := by omega
    have d4 : (c == (215 : Int)) = false := by rw [beq_eq_false_iff_ne]; omega
    have d5 : decide ((913 : Int) ≤ c) = true := decide_eq_true (by omega)
    have d6 : decide (c ≤ (937 : Int)) = false := decide_eq_false (by omega)
    have n7 : ¬ c = 930 := by omega
    have d7 : (c == (930 : Int)) = false := by rw [beq_eq_false_iff_ne]; omega
    have d8 : decide ((1040 : Int) ≤ c) = true := decide_eq_true (by omega)
    have d9 : decide (c ≤ (1071 : Int)) = true := decide_eq_true (by omega)
    have d10 : decide ((1024 : Int) ≤ c) = true := decide_eq_true (by omega)
    have d11 : decide (c ≤ (1039 : Int)) = false := decide_eq_false (by omega)
    have e : smallI c = c + 32 := if_pos (by omega)
    rw [e]
    obtain ⟨c2, hc2⟩ : ∃ c2, c + 32 = c2 := ⟨_, rfl⟩
    rw [hc2]
    have hb : -9223372036854775808 ≤ c2 ∧ c2 ≤ 9223372036854775807 := by omega
    clear e hc
    go_enter Tryz.func78, Tryz.ntmps78
    go_wp2
    go_ret
    exact ⟨rfl, rfl⟩
  · have d0 : decide ((65 : Int) ≤ c) = true := decide_eq_true (by omega)
    have d1 : decide (c ≤ (90 : Int)) = false := decide_eq_false (by omega)
    have d2 : decide ((192 : Int) ≤ c) = true := decide_eq_true (by omega)
    have d3 : decide (c ≤ (222 : Int)) = false := decide_eq_false (by omega)
    have n4 : ¬ c = 215 := by omega
    have d4 : (c == (215 : Int)) = false := by rw [beq_eq_false_iff_ne]; omega
    have d5 : decide ((913 : Int) ≤ c) = true := decide_eq_true (by omega)
    have d6 : decide (c ≤ (937 : Int)) = false := decide_eq_false (by omega)
    have n7 : ¬ c = 930 := by omega
    have d7 : (c == (930 : Int)) = false := by rw [beq_eq_false_iff_ne]; omega
    have d8 : decide ((1040 : Int) ≤ c) = true := decide_eq_true (by omega)
    have d9 : decide (c ≤ (1071 : Int)) = false := decide_eq_false (by omega)
    have d10 : decide ((1024 : Int) ≤ c) = true := decide_eq_true (by omega)
    have d11 : decide (c ≤ (1039 : Int)) = false := decide_eq_false (by omega)
    have e : smallI c = c := by
      unfold smallI
      rw [if_neg (by omega), if_neg (by omega)]
    rw [e]
    clear e hc
    go_enter Tryz.func78, Tryz.ntmps78
    go_wp2
    go_ret
    exact ⟨rfl, rfl⟩
end Go.Proofs.YtaeaomlhbdbbfaaGreatDoor
namespace Go.Proofs.YtaeaomlhbdbbfaaGreatDoor
open Go.RowKit

/-- A literal row of bytes, laid anew. -/
theorem new_row (w : World) (e : TypeId) (l : List UInt8) (hl : l.length ≤ maxLen) : BRow e (w.alloc (.cells (bcells l).toArray e)) (some ⟨w.heap.size, 0, none⟩) l.length l.length l :=
  ⟨rfl, by
    refine ⟨by simp [bcells], .inr ⟨w.heap.size, l.length, (bcells l).toArray, rfl, Nat.zero_le _, heap_alloc_new w _, Nat.le_refl _, hl, by simp [bcells], List.take_of_length_le (by simp [bcells])⟩⟩⟩
set_option maxHeartbeats 4000000 in
theorem rutf8 (c : Nat) (w : World) (h : c < 2048) : Calls Tryz.prog 79 #[.int .i64 c] w fun e w' => e = .returned (.string (tx (utf8F c))) ∧ Only (fun _ => False) w w' := by
  unfold utf8F
  by_cases h1 : c < 128
  · have d1 : (c : Int) < 128 := by omega
    have e1 : IntKind.u8.wrap (c : Int) = (c : Int) := by
      rw [show IntKind.u8.wrap (c : Int) = (c : Int) % 256 from rfl]
      omega
    have HT := Lib.hid (BRow.toText (src := 95) (dst := 9) Tryz.underlying95 Tryz.underlying5 Tryz.underlying9 (new_row w 5 [UInt8.ofNat c] (by show 1 ≤ maxLen; decide)))
    have e2 : (UInt8.ofNat c).toNat = c := UInt8.toNat_ofNat_of_lt' (by show c < 256; omega)
    have e3 : (bcells [UInt8.ofNat c]).toArray = #[.int .u8 (c : Int)] := by simp [bcells, e2]
    rw [e3] at HT
    rw [if_pos h1]
    have ht : (convert 95 9 (.slice (some ⟨w.heap.size, 0, none⟩) 1 1)).run Tryz.prog (w.alloc (.cells #[.int .u8 (c : Int)] 5)) = .ok (.string (tx [UInt8.ofNat c])) (w.alloc (.cells #[.int .u8 (c : Int)] 5)) := HT.out
    clear e2 e3 HT
    go_enter Tryz.func79, Tryz.ntmps79
    go_wp2
    go_ret
    exact ⟨rfl, (Only.refl _ w).alloc _⟩
  · have d1 : ¬ (c : Int) < 128 := by omega
    obtain ⟨A, hA⟩ : ∃ A, 192 + c / 64 = A := ⟨_, rfl⟩
    obtain ⟨B, hB⟩ : ∃ B, 128 + c % 64 = B := ⟨_, rfl⟩
    have hA2 : A < 256 := by omega
    have hB2 : B < 256 := by omega
    have f1 : (192 : Int) + (c : Int) / 64 = (A : Int) := by omega
    have f2 : (128 : Int) + (c : Int) % 64 = (B : Int) := by omega
    have e1 : IntKind.u8.wrap (A : Int) = (A : Int) := by
      rw [show IntKind.u8.wrap (A : Int) = (A : Int) % 256 from rfl]
      omega
    have e4 : IntKind.u8.wrap (B : Int) = (B : Int) := by
      rw [show IntKind.u8.wrap (B : Int) = (B : Int) % 256 from rfl]
      omega
    have HT := Lib.hid (BRow.toText (src := 95) (dst := 9) Tryz.underlying95 Tryz.underlying5 Tryz.underlying9 (new_row w 5 [UInt8.ofNat A, UInt8.ofNat B] (by show 2 ≤ maxLen; decide)))
    have e2 : (UInt8.ofNat A).toNat = A := UInt8.toNat_ofNat_of_lt' (by show A < 256; omega)
    have e5 : (UInt8.ofNat B).toNat = B := UInt8.toNat_ofNat_of_lt' (by show B < 256; omega)
    have e3 : (bcells [UInt8.ofNat A, UInt8.ofNat B]).toArray = #[.int .u8 (A : Int), .int .u8 (B : Int)] := by simp [bcells, e2, e5]
    rw [e3] at HT
    rw [if_neg h1, hA, hB]
    have ht : (convert 95 9 (.slice (some ⟨w.heap.size, 0, none⟩) 2 2)).run Tryz.prog (w.alloc (.cells #[.int .u8 (A : Int), .int .u8 (B : Int)] 5)) = .ok (.string (tx [UInt8.ofNat A, UInt8.ofNat B])) (w.alloc (.cells #[.int .u8 (A : Int), .int .u8 (B : Int)] 5)) := HT.out
    clear e2 e3 e5 HT hA hB
    go_enter Tryz.func79, Tryz.ntmps79
    go_wp2
    go_ret
    exact ⟨rfl, (Only.refl _ w).alloc _⟩
theorem decF_le (m : List UInt8) : (decF m).1 ≤ 1114111 ∧ (decF m).2 ≤ 4 := by
  rcases Nat.eq_zero_or_pos (decF m).2 with h | h
  · cases m with
    | nil => exact ⟨Nat.zero_le _, Nat.zero_le _⟩
    | cons b r =>
      rw [dec_cons] at h ⊢
      by_cases h0 : (longF b.toNat).1 = 0
      · rw [if_pos h0]
        exact ⟨Nat.zero_le _, Nat.zero_le _⟩
      · rw [if_neg h0] at h ⊢
        rcases endF_cases (longF b.toNat).1 (contL r ((longF b.toNat).1 - 1) (longF b.toNat).2) with g | ⟨c, _, g2, _, g4⟩
        · rw [g]
          exact ⟨Nat.zero_le _, Nat.zero_le _⟩
        · rw [g2]
          exact ⟨g4, (longF_le b.toNat).1⟩
  · obtain ⟨_, _, _, _, _, _, e4, _, e6, _⟩ := dec_pos m h
    exact ⟨e6, e4⟩
theorem small_lt (c : Nat) (h : smallN c ≠ c) : smallN c < 2048 := by
  rcases small_cases c with g | ⟨_, g⟩ | ⟨_, _, _, g⟩
  · exact (h g).elim
  · omega
  · omega
theorem utf8_len (c : Nat) : (utf8F c).length ≤ 2 := by
  unfold utf8F
  split <;> simp
set_option maxHeartbeats 8000000 in
theorem rfold (l : List UInt8) (w : World) (hs : l.length ≤ 100000) : Calls Tryz.prog 60 #[.string (tx l)] w fun e w' => e = .returned (.string (tx (foldF l))) ∧ Only (fun _ => False) w w' := by
  have hz : (tx l).size = l.length := tx_size l
  have HC : Hid (∀ a b, (tx l).extract a b = tx ((l.take b).drop a)) := Lib.hid fun a b => tx_cut _ a b
  obtain ⟨N, hN⟩ : ∃ N, l.length = N := ⟨_, rfl⟩
  have HN := Lib.hid hN
  rw [hN] at hz hs
  have HNX : Hid (∀ (a : Nat) (w1 : World), a < N → Calls Tryz.prog 69 #[.string (tx l), .int .i64 a] w1 fun e w' => e = .returned (.tuple #[.int .i64 (nextF l a).1, .int .i64 (nextF l a).2]) ∧ Only (fun _ => False) w1 w') := Lib.hid fun a w1 h => rnext l a w1 (by rw [HN.out]; exact h) (by rw [HN.out]; omega)
  have HS : Hid (∀ a, a < N → foldF (l.drop a) = if (nextF l a).2 = 0 then l.getD a 0 :: foldF (l.drop (a + 1)) else (if smallN (nextF l a).1 = (nextF l a).1 then (l.take (a + (nextF l a).2)).drop a else utf8F (smallN (nextF l a).1)) ++ foldF (l.drop (a + (nextF l a).2))) := Lib.hid fun a h => fold_step l a (by rw [HN.out]; exact h)
  have HL : Hid (∀ a, a < N → (nextF l a).1 ≤ 1114111 ∧ (nextF l a).2 ≤ 4 ∧ (0 < (nextF l a).2 → a + (nextF l a).2 ≤ N)) := Lib.hid fun a h => by
    have h1 := nextF_le l a
    have h2 := decF_le (l.drop a)
    rw [← next_dec l a (by rw [HN.out]; exact h)] at h2
    rw [HN.out] at h1
    exact ⟨h2.1, h2.2, h1.2⟩
  clear hN
  go_enter Tryz.func60, Tryz.ntmps60
  go_wp2_with fail
  go_loopg [3, 4] N (fun gk u v wx => ∃ (a : Nat) (X : List UInt8), u = .string (tx X) ∧ v = .int .i64 a ∧ N ≤ a + gk ∧ a ≤ N ∧ X.length ≤ 2 * a ∧ Hid (X ++ foldF (l.drop a) = foldF l) ∧ Hid (Only (fun _ => False) w wx))
  case atStart => exact ⟨0, [], rfl, rfl, by omega, by omega, by simp, Lib.hid rfl, Lib.hid (Only.refl _ _)⟩
  case round =>
    obtain ⟨a, X, rfl, rfl, hag, haN, hX, HX, HO⟩ := hrel
    by_cases hlt : a < N
    · have hlt2 : (a : Int) < (N : Int) := by omega
      have HY := Lib.hid (HNX.out a wr hlt)
      have HS2 := Lib.hid (HS.out a hlt)
      obtain ⟨hl1, hl2, hl3⟩ := HL.out a hlt
      have HG : Hid ((l.take (a + 1)).drop a = [l.getD a 0]) := Lib.hid (by
        rw [getD_take_snoc 0 l a (by rw [HN.out]; exact hlt), List.drop_append_of_le_length (by rw [List.length_take, HN.out]; omega), List.drop_take, Nat.sub_self]
        rfl)
      generalize (nextF l a).1 = code at HY HS2 hl1
      generalize (nextF l a).2 = n at HY HS2 hl2 hl3
      go_wp2_with fail
      refine HY.out.mono ?_
      rintro e w2 ⟨rfl, o2⟩
      have HO2 := Lib.hid (HO.out.trans o2)
      clear o2 HY HO HNX HS HL
      by_cases c1 : n = 0
      · subst c1
        have hcut := HC.out a (a + 1)
        have ha1 : ((a : Int) + 1) = ((a + 1 : Nat) : Int) := by omega
        have ha := add_tx (P := Tryz.prog) X ((l.take (a + 1)).drop a) (by omega) (by rw [List.length_drop, List.length_take, HN.out]; omega)
        have HX2 : Hid (X ++ (l.take (a + 1)).drop a ++ foldF (l.drop (a + 1)) = foldF l) := Lib.hid (by
          rw [HG.out, ← HX.out, HS2.out, if_pos rfl, List.append_assoc]
          rfl)
        have hl4 : (X ++ (l.take (a + 1)).drop a).length ≤ 2 * (a + 1) := by
          rw [List.length_append, List.length_drop, List.length_take, HN.out]
          omega
        obtain ⟨a1, h1⟩ : ∃ a1, a + 1 = a1 := ⟨_, rfl⟩
        rw [h1] at hcut ha ha1 HX2 hl4
        generalize (l.take a1).drop a = q at hcut ha HX2 hl4
        have hb1 : a ≤ a1 := by omega
        have hb2 : a1 ≤ N := by omega
        clear HS2 HX HG HC
        go_wp2_with fail
        go_roundg (gk - 1)
        case measure => omega
        case rel => exact ⟨a1, X ++ q, rfl, by go_num, by omega, hb2, hl4, HX2, HO2⟩
      · have q1 : ¬ (n : Int) = 0 := by omega
        have q2 : ((n : Int) == 0) = false := by rw [beq_eq_false_iff_ne]; exact q1
        have hl5 := hl3 (by omega)
        have HSM : Hid (∀ w1, Calls Tryz.prog 78 #[.int .i64 code] w1 fun e w' => e = .returned (.int .i64 (smallN code)) ∧ w' = w1) := Lib.hid fun w1 => by
          rw [← small_nat]
          exact rsmall code w1 (by omega) (by omega)
        obtain ⟨a1, h1⟩ : ∃ a1, a + n = a1 := ⟨_, rfl⟩
        have ha1 : ((a : Int) + (n : Int)) = (a1 : Int) := by omega
        have hb1 : a ≤ a1 := by omega
        have hb2 : a1 ≤ N := by omega
        rw [if_neg c1, h1] at HS2
        by_cases c2 : smallN code = code
        · have k2 : (smallN code : Int) = (code : Int) := by omega
          have hcut := HC.out a a1
          have hql : ((l.take a1).drop a).length ≤ a1 - a := by rw [List.length_drop, List.length_take]; omega
          rw [if_pos c2] at HS2
          generalize (l.take a1).drop a = q at hcut HS2 hql
          have ha := add_tx (P := Tryz.prog) X q (by omega) (by omega)
          have HX2 : Hid (X ++ q ++ foldF (l.drop a1) = foldF l) := Lib.hid (by rw [← HX.out, HS2.out, List.append_assoc])
          have hl4 : (X ++ q).length ≤ 2 * a1 := by rw [List.length_append]; omega
          rw [k2] at HSM
          clear HS2 HX HG HC c2 k2
          go_wp2_with fail
          refine (HSM.out _).mono ?_
          rintro e _ ⟨rfl, rfl⟩
          go_wp2_with fail
          go_roundg (gk - 1)
          case measure => omega
          case rel => exact ⟨a1, X ++ q, rfl, by go_num, by omega, hb2, hl4, HX2, HO2⟩
        · have k2 : ¬ (smallN code : Int) = (code : Int) := by omega
          have k3 : ((smallN code : Int) == (code : Int)) = false := by rw [beq_eq_false_iff_ne]; exact k2
          have hsl := small_lt code c2
          rw [if_neg c2] at HS2
          have HU := Lib.hid fun w1 => rutf8 (smallN code) w1 hsl
          have hql := utf8_len (smallN code)
          generalize utf8F (smallN code) = q at HS2 HU hql
          generalize smallN code = s at HSM HU k2 k3 hsl
          have ha := add_tx (P := Tryz.prog) X q (by omega) (by omega)
          have HX2 : Hid (X ++ q ++ foldF (l.drop a1) = foldF l) := Lib.hid (by rw [← HX.out, HS2.out, List.append_assoc])
          have hl4 : (X ++ q).length ≤ 2 * a1 := by rw [List.length_append]; omega
          clear HS2 HX HG HC c2
          go_wp2_with fail
          refine (HSM.out _).mono ?_
          rintro e _ ⟨rfl, rfl⟩
          go_wp2_with fail
          refine (HSM.out _).mono ?_
          rintro e _ ⟨rfl, rfl⟩
          go_wp2_with fail
          refine (HU.out _).mono ?_
          rintro e w3 ⟨rfl, o3⟩
          have HO3 := Lib.hid (HO2.out.trans o3)
          clear o3 HU HSM HO2
          go_wp2_with fail
          go_roundg (gk - 1)
          case measure => omega
          case rel => exact ⟨a1, X ++ q, rfl, by go_num, by omega, hb2, hl4, HX2, HO3⟩
    · obtain rfl : a = N := by omega
      have hlt2 : ¬ (a : Int) < (a : Int) := by omega
      have HE : Hid (X = foldF l) := Lib.hid (by
        have := HX.out
        rw [List.drop_eq_nil_iff.2 (by rw [HN.out]; exact Nat.le_refl _), fold_nil, List.append_nil] at this
        exact this)
      go_wp2
      go_ret
      rw [HE.out]
      exact ⟨rfl, HO.out⟩
end Go.Proofs.YtaeaomlhbdbbfaaGreatDoor
