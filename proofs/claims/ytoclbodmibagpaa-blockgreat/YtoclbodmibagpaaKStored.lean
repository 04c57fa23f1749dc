/- Layer 11, the program: what a block begins with; a block of bytes. -/
import Derived.Test.YtoclbodmibagpaaKWf
import Derived.Test.YtoclbodmibagpaaKField
namespace Go.Proofs.Ytoclbodmibagpaa
open Go.RowKit

/-- The bits with which a block begins. -/
def headB (kind : Nat) (last : Bool) : List UInt8 := nb (if last then 1 else 0) 1 ++ nb kind 2
theorem headB_length (kind : Nat) (last : Bool) : (headB kind last).length = 3 := by simp [headB, nb_length]
theorem headB_bits (kind : Nat) (last : Bool) : Bits (headB kind last) := bits_append (nb_bits _ _) (nb_bits _ _)
set_option maxHeartbeats 1000000 in
theorem whead (b k : Nat) (last : Bool) (F : Nat → Prop) (bl : List UInt8) (w : World) (h : Wf w b F bl) (hbl : bl.length ≤ 1000000000) (hk : k ≤ 3) :
    Calls Try.prog 35 #[.pointer (some ⟨b, 0, none⟩), .int .u32 k, .bool last] w (PutW w b F (bl ++ headB k last)) := by
  have HP : Hid (∀ x : Nat, x = (if last then 1 else 0) → Calls Try.prog 57 #[.pointer (some ⟨b, 0, none⟩), .int .u32 x, .int .i64 1] w (PutW w b F (bl ++ nb (if last then 1 else 0) 1))) := Lib.hid fun x hx => by
    subst hx
    exact wput b (if last then 1 else 0) 1 F bl w h (by omega) (by split <;> omega) (by decide)
  have HQ : Hid (∀ w1, WfP w b F (bl ++ nb (if last then 1 else 0) 1) w1 → Calls Try.prog 57 #[.pointer (some ⟨b, 0, none⟩), .int .u32 k, .int .i64 2] w1 (PutW w b F (bl ++ headB k last))) := Lib.hid fun w1 h1 => by
    refine (wput b k 2 _ _ w1 h1.wf (by rw [List.length_append, nb_length]; omega) (by omega) (by decide)).mono ?_
    rintro e w2 ⟨rfl, h2⟩
    refine ⟨rfl, ?_⟩
    rw [headB, ← List.append_assoc]
    exact h1.step h2
  clear h
  cases last with
  | true =>
    have HP1 := Lib.hid (HP.out 1 rfl)
    clear HP
    go_enter Try.func35, Try.ntmps35
    go_wp2_with fail
    refine HP1.out.mono ?_
    rintro e w1 ⟨rfl, h1⟩
    have HC := Lib.hid (HQ.out w1 h1)
    clear h1 HP1 HQ
    go_wp2_with fail
    refine HC.out.mono ?_
    rintro e w2 ⟨rfl, h2⟩
    have H2 := Lib.hid h2
    clear h2 HC
    go_wp2
    go_end0
    exact ⟨rfl, H2.out⟩
  | false =>
    have HP1 := Lib.hid (HP.out 0 rfl)
    clear HP
    go_enter Try.func35, Try.ntmps35
    go_wp2_with fail
    refine HP1.out.mono ?_
    rintro e w1 ⟨rfl, h1⟩
    have HC := Lib.hid (HQ.out w1 h1)
    clear h1 HP1 HQ
    go_wp2_with fail
    refine HC.out.mono ?_
    rintro e w2 ⟨rfl, h2⟩
    have H2 := Lib.hid h2
    clear h2 HC
    go_wp2
    go_end0
    exact ⟨rfl, H2.out⟩

/-- All bits of a number turned. -/
theorem not_i64 (n : Nat) (h : n < 4294967296) : bits .xor .i64 (-1) (n : Int) = -(n : Int) - 1 := by
  unfold bits
  simp only [IntKind.bits]
  have e1 : BitVec.ofInt 64 (-1) = BitVec.allOnes 64 := by decide
  have e2 : (BitVec.ofInt 64 (n : Int)).toNat = n := by simp; omega
  have e3 : (BitVec.ofInt 64 (-1) ^^^ BitVec.ofInt 64 (n : Int)).toNat = 18446744073709551615 - n := by
    rw [e1, BitVec.allOnes_xor, BitVec.toNat_not, e2]
  show IntKind.i64.wrap (((BitVec.ofInt 64 (-1) ^^^ BitVec.ofInt 64 (n : Int)).toNat : Nat) : Int) = _
  rw [e3, IntKind.wrap_i64]
  omega

/-- The bits of a block of kind 0, behind bits bl. -/
def storedB (bl : List UInt8) (s : ByteArray) (last : Bool) : List UInt8 := alignB (bl ++ headB 0 last) ++ (bitsOf (bytesOf s.size 2 ++ bytesOf (18446744073709551615 - s.size) 2) ++ bitsOf s.data.toList)
theorem bitsOf_append (a b : List UInt8) : bitsOf (a ++ b) = bitsOf a ++ bitsOf b := by simp [bitsOf]
def StP (w : World) (b : Nat) (F : Nat → Prop) (bl : List UInt8) (e : Ending) (w' : World) : Prop := e = .returned (.int .i64 0) ∧ WfP w b F bl w'
theorem alignB_full (bl : List UInt8) (h : bl.length % 8 = 0) : alignB bl = bl := by
  unfold alignB
  rw [show (bl.length + 7) / 8 * 8 - bl.length = 0 by omega]
  simp
set_option maxRecDepth 20000 in
set_option maxHeartbeats 1000000 in
theorem stored (b : Nat) (s : ByteArray) (last : Bool) (F : Nat → Prop) (bl : List UInt8) (w : World) (h : Wf w b F bl) (hbl : bl.length ≤ 100000000) (hs : s.size ≤ 65535) :
    Calls Try.prog 19 #[.pointer (some ⟨b, 0, none⟩), .string s, .bool last] w (StP w b F (storedB bl s last)) := by
  have HH := Lib.hid (whead b 0 last F bl w h (by omega) (by decide))
  obtain ⟨n, hn⟩ : ∃ n, s.size = n := ⟨_, rfl⟩
  obtain ⟨P, hP⟩ : ∃ P : ByteArray, (⟨(bytesOf n 2).toArray⟩ : ByteArray) = P := ⟨_, rfl⟩
  obtain ⟨Q, hQ⟩ : ∃ Q : ByteArray, (⟨(bytesOf (18446744073709551615 - n) 2).toArray⟩ : ByteArray) = Q := ⟨_, rfl⟩
  have H1 : Hid (∀ w1, Calls Try.prog 37 #[.int .i64 n] w1 fun e w' => e = .returned (.string P) ∧ Only (fun _ => False) w1 w') := Lib.hid fun w1 => by
    rw [← hP]
    exact p16 n n w1 (by omega) (by rw [IntKind.wrap_u64]; omega)
  have H2 : Hid (∀ w1, Calls Try.prog 37 #[.int .i64 (-(n : Int) - 1)] w1 fun e w' => e = .returned (.string Q) ∧ Only (fun _ => False) w1 w') := Lib.hid fun w1 => by
    rw [← hQ]
    exact p16 (-(n : Int) - 1) (18446744073709551615 - n) w1 (by omega) (by rw [IntKind.wrap_u64]; omega)
  have hal : (alignB (bl ++ headB 0 last) ++ bitsOf (bytesOf n 2 ++ bytesOf (18446744073709551615 - n) 2)).length % 8 = 0 ∧ (alignB (bl ++ headB 0 last) ++ bitsOf (bytesOf n 2 ++ bytesOf (18446744073709551615 - n) 2)).length ≤ bl.length + 100 := by
    have e4 : (bytesOf n 2 ++ bytesOf (18446744073709551615 - n) 2).length = 4 := by rw [List.length_append, bytesOf_length, bytesOf_length]
    rw [List.length_append, alignB_length, bitsOf_length, e4, List.length_append, headB_length]
    omega
  have HW1 : Hid (∀ w1 w2 : World, WfP w b F (bl ++ headB 0 last) w1 → Only (fun _ => False) w1 w2 → Calls Try.prog 36 #[.pointer (some ⟨b, 0, none⟩), .string (P ++ Q)] w2 (PutW w b F (alignB (bl ++ headB 0 last) ++ bitsOf (bytesOf n 2 ++ bytesOf (18446744073709551615 - n) 2)))) := Lib.hid fun w1 w2 h1 ho => by
    have h2 := h1.new ho
    have e : (P ++ Q).data.toList = bytesOf n 2 ++ bytesOf (18446744073709551615 - n) 2 := by rw [← hP, ← hQ]; simp
    have e2 : (P ++ Q).size = 4 := by
      rw [ByteArray.size_append, ← hP, ← hQ]
      show (bytesOf n 2).toArray.size + (bytesOf (18446744073709551615 - n) 2).toArray.size = 4
      simp [bytesOf_length]
    refine (wwrite b _ _ (P ++ Q) w2 h2.wf (by rw [List.length_append, headB_length]; omega) (by omega)).mono ?_
    rintro e3 w3 ⟨rfl, h3⟩
    rw [e] at h3
    exact ⟨rfl, h2.step h3⟩
  have HW2 : Hid (∀ w1 : World, WfP w b F (alignB (bl ++ headB 0 last) ++ bitsOf (bytesOf n 2 ++ bytesOf (18446744073709551615 - n) 2)) w1 → Calls Try.prog 36 #[.pointer (some ⟨b, 0, none⟩), .string s] w1 (PutW w b F (storedB bl s last))) := Lib.hid fun w1 h1 => by
    refine (wwrite b _ _ s w1 h1.wf (by omega) (by omega)).mono ?_
    rintro e3 w3 ⟨rfl, h3⟩
    rw [alignB_full _ hal.1, List.append_assoc] at h3
    refine ⟨rfl, ?_⟩
    rw [storedB, hn]
    exact h1.step h3
  have hlt : ¬ (65535 : Int) < (n : Int) := by omega
  have hnot := not_i64 n (by omega)
  have hps : P.size = 2 := by rw [← hP]; show (bytesOf n 2).toArray.size = 2; simp [bytesOf_length]
  have hqs : Q.size = 2 := by rw [← hQ]; show (bytesOf (18446744073709551615 - n) 2).toArray.size = 2; simp [bytesOf_length]
  clear h hP hQ hal
  generalize storedB bl s last = R at HW2 ⊢
  generalize alignB (bl ++ headB 0 last) ++ bitsOf (bytesOf n 2 ++ bytesOf (18446744073709551615 - n) 2) = R1 at HW1 HW2
  generalize bl ++ headB 0 last = R0 at HH HW1
  go_enter Try.func19, Try.ntmps19
  go_wp2_with fail
  refine HH.out.mono ?_
  rintro e w1 ⟨rfl, h1⟩
  have HA := Lib.hid (HW1.out w1)
  have HB := Lib.hid h1
  clear h1 HH HW1
  go_wp2_with fail
  refine (H1.out w1).mono ?_
  rintro e w2 ⟨rfl, o2⟩
  have HO2 := Lib.hid o2
  clear o2
  go_wp2_with fail
  refine (H2.out w2).mono ?_
  rintro e w3 ⟨rfl, o3⟩
  have HC := Lib.hid (HA.out w3 HB.out (HO2.out.trans o3))
  clear o3 HA HB HO2
  go_wp2_with fail
  refine HC.out.mono ?_
  rintro e w4 ⟨rfl, h4⟩
  have HD := Lib.hid (HW2.out w4 h4)
  clear h4 HC HW2
  go_wp2_with fail
  refine HD.out.mono ?_
  rintro e w5 ⟨rfl, h5⟩
  have HE := Lib.hid h5
  clear h5 HD
  go_wp2
  go_ret
  exact ⟨rfl, HE.out⟩

theorem stored_great (b : Option Addr) (s : ByteArray) (last : Bool) (w : World) (hs : 65535 < s.size) (hs2 : s.size ≤ 1000000) :
    Calls Try.prog 19 #[.pointer b, .string s, .bool last] w fun e w' => e = .returned (.int .i64 7) ∧ w = w' := by
  obtain ⟨n, hn⟩ : ∃ n, s.size = n := ⟨_, rfl⟩
  have hlt : (65535 : Int) < (n : Int) := by omega
  go_enter Try.func19, Try.ntmps19
  go_wp2
  go_ret
  exact ⟨rfl, rfl⟩
end Go.Proofs.Ytoclbodmibagpaa
