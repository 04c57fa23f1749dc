/- Layer 8, the program: a block's head, and a block whose bytes stand as they are. -/
import Derived.Test.YtackcgiokkbhdaaDoorCoded
import Derived.Test.YtackcgiokkbhdaaDoorEight
namespace Go.Proofs.YtackcgiokkbhdaaDoor
open Go.RowKit

/-- Two numbers of bits, one behind the other. -/
theorem two_bits (s : ByteArray) (a n m : Nat) (ha : a ≤ 8 * s.size) (hn : n ≤ 32) (hm : m ≤ 32) : ∃ v1 b1 f1 v2 b2 f2, rBits s a false n = (v1, b1, f1) ∧ rBits s b1 f1 m = (v2, b2, f2) ∧ b1 ≤ 8 * s.size ∧ b2 ≤ 8 * s.size ∧ v1 < 4294967296 ∧ v2 < 4294967296 ∧ (f2 = true ↔ 8 * s.size < a + n + m) ∧
    (f2 = false → v1 = nm (bitsOf s.data.toList) a n ∧ v2 = nm (bitsOf s.data.toList) (a + n) m ∧ b2 = a + n + m) := by
  have lt32 : ∀ a k, k ≤ 32 → le s.data.toList / 2 ^ a % 2 ^ k < 4294967296 := fun a k hk => Nat.lt_of_lt_of_le (Nat.mod_lt _ (Nat.pow_pos (by decide))) (Nat.pow_le_pow_right (n := 2) (j := 32) (by decide) hk)
  by_cases h1 : 8 * s.size < a + n
  · have e1 : rBits s a false n = (0, a, true) := by unfold rBits; rw [if_pos (by simp [short]; omega)]
    have e2 : rBits s a true m = (0, a, true) := by unfold rBits; rw [if_pos (by simp [short])]
    exact ⟨0, a, true, 0, a, true, e1, e2, ha, ha, by decide, by decide, ⟨fun _ => by omega, fun _ => rfl⟩, fun h => by cases h⟩
  · have e1 : rBits s a false n = (le s.data.toList / 2 ^ a % 2 ^ n, a + n, false) := by unfold rBits; rw [if_neg (by simp [short]; omega)]; rfl
    by_cases h2 : 8 * s.size < a + n + m
    · have e2 : rBits s (a + n) false m = (0, a + n, true) := by unfold rBits; rw [if_pos (by simp [short]; omega)]
      exact ⟨_, _, _, _, _, _, e1, e2, by omega, by omega, lt32 a n hn, by decide, ⟨fun _ => h2, fun _ => rfl⟩, fun h => by cases h⟩
    · have e2 : rBits s (a + n) false m = (le s.data.toList / 2 ^ (a + n) % 2 ^ m, a + n + m, false) := by unfold rBits; rw [if_neg (by simp [short]; omega)]; rfl
      exact ⟨_, _, _, _, _, _, e1, e2, by omega, by omega, lt32 a n hn, lt32 (a + n) m hm, ⟨fun h => (by cases h), fun h => (by omega)⟩, fun _ => ⟨nm_of s a n, nm_of s (a + n) m, rfl⟩⟩

/-- What a block's head tells. -/
def HeadPost (w : World) (b : Nat) (s : ByteArray) (a : Nat) (e : Ending) (w' : World) : Prop :=
  Only (· = b) w w' ∧ if 8 * s.size < a + 3 then ∃ v1 v2, e = .returned (.tuple #[v1, v2, .int .i64 3]) else
    e = .returned (.tuple #[.bool (decide (nm (bitsOf s.data.toList) a 1 = 1)), .int .i64 (nm (bitsOf s.data.toList) (a + 1) 2 : Nat), .int .i64 0]) ∧ Rd w' b s (a + 3) false

set_option maxRecDepth 20000 in
set_option maxHeartbeats 1000000 in
theorem head (b d : Nat) (s : ByteArray) (a : Nat) (w : World) (hc : w.cell? ⟨d, 0, none⟩ = some (.pointer (some ⟨b, 0, none⟩))) (hbd : d ≠ b) (hr : Rd w b s a false) (hs : s.size ≤ 1073741824) (ha : a ≤ 8 * s.size) :
    Calls Tryd.prog 28 #[.pointer (some ⟨d, 0, none⟩)] w (HeadPost w b s a) := by
  obtain ⟨v1, b1, f1, v2, b2, f2, e1, e2, k1, k2, l1, l2, k3, k4⟩ := two_bits s a 1 2 ha (by decide) (by decide)
  have H1 := Lib.hid (rdBits b s a false 1 w hr hs ha)
  rw [show (1 : Int) = ((1 : Nat) : Int) from rfl, e1] at H1
  have H2 : Hid (∀ w2, Rd w2 b s b1 f1 → Calls Tryd.prog 38 #[.pointer (some ⟨b, 0, none⟩), .int .i64 2] w2 (AtPost b s b2 f2 w2 (.int .u32 v2))) := Lib.hid fun w2 h2 => by
    have := rdBits b s b1 f1 2 w2 h2 hs k1
    rw [show (2 : Int) = ((2 : Nat) : Int) from rfl, e2] at this
    exact this
  have HK : Hid (∀ w2, Only (· = b) w w2 → w2.cell? ⟨d, 0, none⟩ = some (.pointer (some ⟨b, 0, none⟩))) := Lib.hid fun w2 ho => ho.cell hc hbd
  have HD : Hid (∀ w2, Only (· = b) w w2 → Rd w2 b s b2 f2 → HeadPost w b s a (.returned (.tuple #[.bool (decide (v1 = 1)), .int .i64 v2, .int .i64 (errOf f2)])) w2) := Lib.hid fun w2 ho hr2 => by
    refine ⟨ho, ?_⟩
    cases f2 with
    | true => rw [if_pos (by have := k3.1 rfl; omega)]; exact ⟨_, _, rfl⟩
    | false =>
      obtain ⟨rfl, rfl, rfl⟩ := k4 rfl
      rw [if_neg (fun h => by have := k3.2 (by omega); cases this)]
      exact ⟨rfl, hr2⟩
  have q1 : (v1 : Int) < 4294967296 := by omega
  have q2 : (v2 : Int) < 4294967296 := by omega
  have hb1 : ((v1 : Int) == 1) = decide (v1 = 1) := by rw [Bool.eq_iff_iff]; simp; omega
  have hb2 : decide ((v1 : Int) = 1) = decide (v1 = 1) := by rw [Bool.eq_iff_iff]; simp; omega
  obtain ⟨Z, hZ⟩ : ∃ Z, decide (v1 = 1) = Z := ⟨_, rfl⟩
  rw [hZ] at HD hb1 hb2
  clear hr e1 e2 k3 k4 l1 l2 hZ
  go_enter Tryd.func28, Tryd.ntmps28
  go_wp2_with fail
  refine H1.out.mono ?_
  rintro e w2 ⟨rfl, hr2, ho2⟩
  have c2 := HK.out w2 ho2
  have HR2 := Lib.hid hr2
  have HO2 := Lib.hid ho2
  clear hr2 ho2 hc H1
  go_wp2_with fail
  refine (H2.out w2 HR2.out).mono ?_
  rintro e w3 ⟨rfl, hr3, ho3⟩
  have HO3 := Lib.hid (HO2.out.trans ho3)
  have c3 := HK.out w3 HO3.out
  have HR3 := Lib.hid hr3
  have HF := Lib.hid (HD.out w3 HO3.out hr3)
  clear hr3 ho3 c2 H2 HD HK
  go_wp2_with fail
  refine (err b s b2 f2 w3 HR3.out).mono ?_
  rintro e w4 ⟨rfl, rfl⟩
  go_wp2
  go_ret3
  exact HF.out

set_option maxRecDepth 100000 in
set_option maxHeartbeats 4000000 in
theorem stored (b d : Nat) (s : ByteArray) (a : Nat) (most : Int) (A : Option Addr) (n c : Nat) (kv p1 p2 : Value) (out : List UInt8) (w : World) (h : Str w b d most A n c kv p1 p2 out) (hr : Rd w b s a false)
    (hs : s.size ≤ 1073741824) (ha : a ≤ 8 * s.size) (hn : n ≤ 100000) :
    Calls Tryd.prog 40 #[.pointer (some ⟨d, 0, none⟩)] w (Done w b d s most A kv p1 p2 (mStored (bitsOf s.data.toList) most a out)) := by
  have H0 := Lib.hid (align b s a false w hr hs ha)
  obtain ⟨u1, u2⟩ := up8_le a s.size ha
  have eu : (if false = true then a else (a + 7) / 8 * 8) = up8 a := rfl
  rw [eu] at H0
  unfold mStored
  rw [bits_len, h.len]
  have u3 : ∃ q, up8 a = 8 * q := ⟨(a + 7) / 8, by unfold up8; omega⟩
  obtain ⟨z, hz⟩ : ∃ z, up8 a = z := ⟨_, rfl⟩
  rw [hz] at H0 u1 u3 ⊢
  obtain ⟨R, hR⟩ : ∃ R, (if 8 * s.size < z + 32 then ((3 : Nat), a, out) else if nm (bitsOf s.data.toList) z 16 + nm (bitsOf s.data.toList) (z + 16) 16 ≠ 65535 then (2, a, out) else if most < (n : Int) + nm (bitsOf s.data.toList) z 16 then (7, a, out)
    else if 8 * s.size < z + 32 + 8 * nm (bitsOf s.data.toList) z 16 then (3, a, out) else (0, z + 32 + 8 * nm (bitsOf s.data.toList) z 16, out ++ by8 (bitsOf s.data.toList) (z + 32) (nm (bitsOf s.data.toList) z 16))) = R := ⟨_, rfl⟩
  rw [hR]
  clear eu hz u2 hr
  obtain ⟨v1, b1, f1, v2, b2, f2, e1, e2, k1, k2, l1, l2, k3, k4⟩ := two_bits s z 16 16 u1 (by decide) (by decide)
  have H1 : Hid (∀ w2, Rd w2 b s z false → Calls Tryd.prog 38 #[.pointer (some ⟨b, 0, none⟩), .int .i64 16] w2 (AtPost b s b1 f1 w2 (.int .u32 v1))) := Lib.hid fun w2 h2 => by
    have := rdBits b s z false 16 w2 h2 hs u1
    rw [show (16 : Int) = ((16 : Nat) : Int) from rfl, e1] at this
    exact this
  have H2 : Hid (∀ w2, Rd w2 b s b1 f1 → Calls Tryd.prog 38 #[.pointer (some ⟨b, 0, none⟩), .int .i64 16] w2 (AtPost b s b2 f2 w2 (.int .u32 v2))) := Lib.hid fun w2 h2 => by
    have := rdBits b s b1 f1 16 w2 h2 hs k1
    rw [show (16 : Int) = ((16 : Nat) : Int) from rfl, e2] at this
    exact this
  have HK : Hid (∀ w2, Only (· = b) w w2 → w2.cell? ⟨d, 0, none⟩ = some (.pointer (some ⟨b, 0, none⟩))) := Lib.hid fun w2 ho => ho.cell h.c0 h.ne
  have HX : Hid (∀ w2, Only (· = b) w w2 → Str w2 b d most A n c kv p1 p2 out) := Lib.hid fun w2 ho => h.read ho
  have c0 := h.c0
  have hne := h.ne
  have hlen := h.len
  have K3 := Lib.hid k3
  have K4 := Lib.hid k4
  have U3 := Lib.hid u3
  have HR := Lib.hid hR
  clear e1 e2 h k3 k4 u3 hR
  go_enter Tryd.func40, Tryd.ntmps40
  go_wp2_with fail
  refine H0.out.mono ?_
  rintro e w2 ⟨rfl, hr2, ho2⟩
  have HR2 := Lib.hid hr2
  have HO2 := Lib.hid ho2
  have c2 := HK.out w2 ho2
  clear hr2 ho2 H0 c0
  go_wp2_with fail
  refine Steps.region (fun W => W.cell? ⟨d, 0, none⟩ = some (.pointer (some ⟨b, 0, none⟩))) [(true, 0), (true, 1), (true, 2), (true, 3), (true, 5), (true, 6), (true, 7), (true, 8), (false, 4), (false, 9), (true, 10), (true, 11)] (by kernel_rfl) (by kernel_rfl) rfl (by kernel_rfl) (fun _ _ d _ _ h => by cases d <;> exact h) ?_
  have s2 : w2.drew.cell? ⟨d, 0, none⟩ = some (.pointer (some ⟨b, 0, none⟩)) := c2
  refine Steps.take (.pointer (some ⟨d, 0, none⟩)) rfl s2 (fun _ _ => by kernel_rfl) ?_
  simp only [Act.put, List.setIfInBounds_toArray, List.set_cons_succ, List.set_cons_zero]
  refine Steps.take (.pointer (some ⟨d, 0, none⟩)) rfl s2 (fun _ _ => by kernel_rfl) ?_
  simp only [Act.put, List.setIfInBounds_toArray, List.set_cons_succ, List.set_cons_zero]
  refine Steps.take (.pointer (some ⟨d, 0, none⟩)) rfl s2 (fun _ _ => by kernel_rfl) ?_
  simp only [Act.put, List.setIfInBounds_toArray, List.set_cons_succ, List.set_cons_zero]
  refine Steps.take (.pointer (some ⟨b, 0, none⟩)) rfl s2 (fun _ hW => by go_simp) ?_
  simp only [Act.put, List.setIfInBounds_toArray, List.set_cons_succ, List.set_cons_zero]
  refine Steps.take (.pointer (some ⟨d, 0, none⟩)) rfl s2 (fun _ _ => by kernel_rfl) ?_
  simp only [Act.put, List.setIfInBounds_toArray, List.set_cons_succ, List.set_cons_zero]
  refine Steps.take (.pointer (some ⟨d, 0, none⟩)) rfl s2 (fun _ _ => by kernel_rfl) ?_
  simp only [Act.put, List.setIfInBounds_toArray, List.set_cons_succ, List.set_cons_zero]
  refine Steps.take (.pointer (some ⟨d, 0, none⟩)) rfl s2 (fun _ _ => by kernel_rfl) ?_
  simp only [Act.put, List.setIfInBounds_toArray, List.set_cons_succ, List.set_cons_zero]
  refine Steps.take (.pointer (some ⟨b, 0, none⟩)) rfl s2 (fun _ hW => by go_simp) ?_
  simp only [Act.put, List.setIfInBounds_toArray, List.set_cons_succ, List.set_cons_zero]
  refine Steps.call 38 #[.pointer (some ⟨b, 0, none⟩), .int .i64 16] rfl (by kernel_rfl) ((H1.out w2.drew HR2.out.drew).mono ?_)
  rintro e w3 ⟨rfl, hr3, ho3⟩
  have ho3' : Only (· = b) w w3 := (HO2.out.drew).trans ho3
  refine ⟨_, rfl, HK.out w3 ho3', ?_⟩
  simp only [Act.put, List.setIfInBounds_toArray, List.set_cons_succ, List.set_cons_zero]
  refine Steps.call 38 #[.pointer (some ⟨b, 0, none⟩), .int .i64 16] rfl (by kernel_rfl) ((H2.out w3 hr3).mono ?_)
  rintro e w4 ⟨rfl, hr4, ho4⟩
  have ho4' : Only (· = b) w w4 := ho3'.trans ho4
  have s4 := HK.out w4 ho4'
  refine ⟨_, rfl, s4, ?_⟩
  simp only [Act.put, List.setIfInBounds_toArray, List.set_cons_succ, List.set_cons_zero]
  refine Steps.take (.int .u32 v1) rfl s4 (fun _ _ => by kernel_rfl) ?_
  simp only [Act.put, List.setIfInBounds_toArray, List.set_cons_succ, List.set_cons_zero]
  refine Steps.take (.int .u32 v2) rfl s4 (fun _ _ => by kernel_rfl) ?_
  simp only [Act.put, List.setIfInBounds_toArray, List.set_cons_succ, List.set_cons_zero]
  show wpList _ _ _ _ _ _
  have HR4 := Lib.hid hr4
  have HO4 := Lib.hid ho4'
  clear hr4 ho4 ho4' hr3 ho3 ho3' s2 c2 H1 H2 HR2 HO2
  go_wp2_with fail
  refine (err b s b2 f2 w4 HR4.out).mono ?_
  rintro e w5 ⟨rfl, rfl⟩
  cases f2 with
  | true =>
    have hR := HR.out
    rw [if_pos (by have := K3.out.1 rfl; omega)] at hR
    have HR2 := Lib.hid hR
    clear K3 K4 hR HR
    go_wp2
    go_ret
    rw [← HR2.out]
    exact ⟨rfl, HO4.out.mono fun _ e => .inl e, fun h => by cases h⟩
  | false =>
    have hin : ¬ 8 * s.size < z + 32 := fun h => by have := K3.out.2 (by omega); cases this
    have hR := HR.out
    rw [if_neg hin] at hR
    obtain ⟨g1, g2, rfl⟩ := K4.out rfl
    rw [show z + 16 + 16 = z + 32 from by omega] at HR4
    rw [← g1, ← g2] at hR
    have lt1 : v1 < 65536 := by rw [g1]; exact nm_lt _ _ 16
    have lt2 : v2 < 65536 := by rw [g2]; exact nm_lt _ _ 16
    have hxor := xor_u32 v2 lt2
    clear K3 K4 g1 g2 k1 k2 l1 l2 HR
    by_cases hne2 : v1 + v2 ≠ 65535
    · rw [if_pos hne2] at hR
      have HR2 := Lib.hid hR
      clear hR
      have hne3 : ¬ (v1 : Int) = ((65535 - v2 : Nat) : Int) := by omega
      obtain ⟨x, hx⟩ : ∃ x, 65535 - v2 = x := ⟨_, rfl⟩
      rw [hx] at hxor hne3
      clear hne2 hx
      go_wp2
      go_ret
      rw [← HR2.out]
      exact ⟨rfl, HO4.out.mono fun _ e => .inl e, fun h => by cases h⟩
    · rw [if_neg hne2] at hR
      have hx : 65535 - v2 = v1 := by omega
      rw [hx] at hxor
      have HLT := Lib.hid lt1
      have q1 : (v1 : Int) ≤ 100000 := by omega
      clear lt1 lt2
      by_cases hroom : most < (n : Int) + v1
      · rw [if_pos hroom] at hR
        have HR2 := Lib.hid hR
        clear hR
        have HT := Lib.hid (tooMany b d most A n c kv p1 p2 out v1 w4 true (HX.out w4 HO4.out) (by omega) (by omega) (by simpa using hroom))
        clear hne2 hx hroom hin
        go_wp2_with fail
        refine HT.out.mono ?_
        rintro e w5 ⟨rfl, k, rfl⟩
        go_wp2
        go_ret
        rw [← HR2.out]
        exact ⟨rfl, (HO4.out.mono fun _ e => .inl e).drewN k, fun h => by cases h⟩
      · rw [if_neg hroom] at hR
        have HR2 := Lib.hid hR
        clear hR
        have HT := Lib.hid (tooMany b d most A n c kv p1 p2 out v1 w4 false (HX.out w4 HO4.out) (by omega) (by omega) (by simpa using hroom))
        have hv : v1 ≤ 100000 := by omega
        clear hne2 hx hroom
        go_wp2_with fail
        refine HT.out.mono ?_
        rintro e w5 ⟨rfl, k, rfl⟩
        have HX5 : Hid (Str (w4.drewN k) b d most A n c kv p1 p2 out) := Lib.hid ((HX.out w4 HO4.out).new ((Only.refl _ w4).drewN k))
        have HR5 : Hid (Rd (w4.drewN k) b s (z + 32) false) := Lib.hid (HR4.out.drewN k)
        have HO5 : Hid (Only (· = b) w (w4.drewN k)) := Lib.hid (HO4.out.drewN k)
        obtain ⟨w5, hw5⟩ : ∃ w5, w4.drewN k = w5 := ⟨_, rfl⟩
        rw [hw5] at HX5 HR5 HO5 ⊢
        clear hw5 HT HX HK HR4 HO4 s4
        -- the bytes
        have hby := rdBytes b s (z + 32) false v1 w5.drew HR5.out.drew hs (by omega)
        have hmod : ∃ t b3 f3, rBytes s (z + 32) false v1 = (t, b3, f3) ∧ t.size ≤ 100000 ∧ (if f3 then 8 * s.size < z + 32 + 8 * v1 else ¬ 8 * s.size < z + 32 + 8 * v1 ∧ b3 = z + 32 + 8 * v1 ∧ t.data.toList = by8 (bitsOf s.data.toList) (z + 32) v1) := by
          obtain ⟨q, rfl⟩ := U3.out
          have hq : (8 * q + 32 + 7) / 8 = q + 4 := by omega
          unfold rBytes
          by_cases hlk : lacks s (8 * q + 32) false v1 = true
          · rw [if_pos hlk]
            refine ⟨_, _, _, rfl, by simp, ?_⟩
            simp only [lacks, hq] at hlk
            simp at hlk ⊢
            omega
          · rw [if_neg hlk, hq]
            simp only [lacks, hq] at hlk
            simp at hlk
            refine ⟨_, _, _, rfl, by simp; omega, ?_⟩
            rw [if_neg (by simp)]
            refine ⟨by omega, by simp; omega, ?_⟩
            rw [Int.toNat_natCast, extract8 s (q + 4) v1 (by omega), show 8 * q + 32 = 8 * (q + 4) from by omega]
        obtain ⟨t, b3, f3, hrb, ht, hf3⟩ := hmod
        rw [hrb] at hby
        have HBY := Lib.hid hby
        have HFN : Hid (∀ w6 A9 c9 w9, Rd w6 b s b3 f3 → Only (· = b) w5.drew w6 → Row 5 w9 A9 (n + t.size) c9 (bcells out ++ bcells t.data.toList) → Only (Lies A) w6 w9 → (A9 = A ∨ A9 = some ⟨w6.heap.size, 0, none⟩) →
            (Rd (w9.setCell ⟨d, 2, none⟩ (.slice A9 (n + t.size) c9)) b s b3 f3 ∧ (w9.setCell ⟨d, 2, none⟩ (.slice A9 (n + t.size) c9)).cell? ⟨d, 0, none⟩ = some (.pointer (some ⟨b, 0, none⟩)) ∧
            Done w b d s most A kv p1 p2 R (.returned (.int .i64 (errOf f3))) (w9.setCell ⟨d, 2, none⟩ (.slice A9 (n + t.size) c9))) ∧ w9.cell? ⟨d, 2, none⟩ = some (.slice A n c) ∧ w9.frozen? ⟨d, 2, none⟩ = false ∧ w9.cell? ⟨d, 0, none⟩ = some (.pointer (some ⟨b, 0, none⟩))) := Lib.hid fun w6 A9 c9 w9 r0 o6 r1 r2 r3 => by
          have g6 := (HX5.out.new ((Only.refl _ w5).drew)).read o6
          have hap : bcells out ++ bcells t.data.toList = bcells (out ++ t.data.toList) := by simp [bcells]
          rw [hap] at r1
          obtain ⟨f1, f2, f3'⟩ := g6.append r0.lt r1 (by simp) r2 r3
          have hrd : Rd (w9.setCell ⟨d, 2, none⟩ (.slice A9 (n + t.size) c9)) b s b3 f3 := r0.only f2 (by
            rintro (e | e)
            · exact g6.ne e.symm
            · exact g6.nb e)
          have i9 := g6.is.only r2 g6.nd
          have hon : Only (Mine b d A) w (w9.setCell ⟨d, 2, none⟩ (.slice A9 (n + t.size) c9)) := ((((HO5.out.drew).trans o6).mono fun _ e => .inl e).trans (f2.mono fun _ e => .inr e))
          refine ⟨⟨hrd, f1.c0, ?_⟩, i9.cell 2 rfl, i9.frozen 2, i9.cell 0 rfl⟩
          rw [← HR2.out]
          cases f3 with
          | true =>
            rw [if_pos rfl] at hf3
            rw [if_pos hf3]
            exact ⟨rfl, hon, fun h => by cases h⟩
          | false =>
            rw [if_neg (by simp)] at hf3
            rw [if_neg hf3.1]
            refine ⟨rfl, hon, fun _ => ⟨A9, c9, ?_, ?_, fun j hj => (f3' j hj).imp id fun x => Nat.le_trans ((HO5.out.drew).trans o6).size x⟩⟩
            · have e : (out ++ by8 (bitsOf s.data.toList) (z + 32) v1).length = n + t.size := by
                rw [← hf3.2.2, List.length_append, hlen]
                simp
              rw [e, ← hf3.2.2]
              exact f1
            · rw [← hf3.2.1]
              exact hrd
        have HCL : Hid (∀ w6, Only (· = b) w5.drew w6 → w6.cell? ⟨d, 2, none⟩ = some (.slice A n c) ∧ w6.cell? ⟨d, 0, none⟩ = some (.pointer (some ⟨b, 0, none⟩)) ∧ Row 5 w6 A n c (bcells out)) := Lib.hid fun w6 o6 => by
          have g6 := (HX5.out.new ((Only.refl _ w5).drew)).read o6
          exact ⟨g6.is.cell 2 rfl, g6.c0, g6.row⟩
        have d2 := HX5.out.is.cell 2 rfl
        have d0 := HX5.out.c0
        have ew : IntKind.i64.wrap (v1 : Int) = (v1 : Int) := IntWalk.i64_in _ (by omega)
        have B1 : (1 : Nat) ≤ 8 := by decide
        have B2 : n + t.size ≤ 1099511627776 := by omega
        have ht2 : (bcells t.data.toList).length = t.size := by simp [bcells]
        clear hby hrb hf3 HX5 HR5 HO5 U3 hlen
        go_wp2_with fail
        go_region_law (first
          | (go_simp
             go_at_call 54
             refine HBY.out.mono ?_
             rintro e w6 ⟨rfl, hr6, ho6⟩
             obtain ⟨m1, m2, m3⟩ := HCL.out w6 ho6
             have HR6 := Lib.hid hr6
             have HO6 := Lib.hid ho6
             have HM3 := Lib.hid m3
             clear hr6 ho6 m3)
          | (refine step_append_row (by rfl) (.tmp 41) (.tmp 48) 40 9 5 (by rfl) Tryd.underlying40 info5 A n c t.size (bcells out) (bcells t.data.toList) (.string t) (by rfl) (by rfl) HM3.out ht2 (Src.text Tryd.underlying9 w6 t) B1 B2 ?_
             intro A9 c9 w9 hrow9 honly9 hlies9
             obtain ⟨H9, k1', k2', k3'⟩ := HFN.out w6 A9 c9 w9 HR6.out HO6.out hrow9 honly9 hlies9
             have H9 := Lib.hid H9
             clear hrow9 honly9 hlies9))
        all_goals
          obtain ⟨h91, h92, h93⟩ := H9.out
          have H91 := Lib.hid h91
          have H93 := Lib.hid h93
          clear h91 h93 H9
          go_wp2_with fail
          refine (err b s b3 f3 _ H91.out).mono ?_
          rintro e w10 ⟨rfl, rfl⟩
          go_wp2
          go_ret
          exact H93.out
end Go.Proofs.YtackcgiokkbhdaaDoor
