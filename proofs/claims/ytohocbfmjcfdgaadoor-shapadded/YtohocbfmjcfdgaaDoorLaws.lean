/- Layer 4: the walks of the two laws. -/
import Derived.Test.YtohocbfmjcfdgaaDoorAwake
namespace Go.Proofs.YtohocbfmjcfdgaaDoor
open Go.RowKit

/-- The number in the first k bytes, the highest first. -/
def lead (l : List UInt8) : Nat → Nat
  | 0 => 0
  | k + 1 => lead l k * 256 + byteAt l k
theorem lead_lt (l : List UInt8) : ∀ k, lead l k < 256 ^ k
  | 0 => by simp [lead]
  | k + 1 => by
    have h1 := lead_lt l k
    have h2 := byteAt_lt l k
    simp only [lead, Nat.pow_succ]
    omega
theorem lead_sha (l : List UInt8) : lead (sha l) 8 = shortOf l := by
  have h := keyOf_ok l
  obtain ⟨S, hS⟩ : ∃ S, keyOf l = S := ⟨_, rfl⟩
  unfold shortOf sha
  rw [hS] at h ⊢
  have ha := h.a
  have hb := h.b
  have e : ∀ i, i < 8 → byteAt (told S.list) i = [S.a / 2 ^ 24, S.a / 2 ^ 16 % 256, S.a / 2 ^ 8 % 256, S.a % 256, S.b / 2 ^ 24, S.b / 2 ^ 16 % 256, S.b / 2 ^ 8 % 256, S.b % 256].getD i 0 := by
    intro i hi
    obtain rfl | rfl | rfl | rfl | rfl | rfl | rfl | rfl : i = 0 ∨ i = 1 ∨ i = 2 ∨ i = 3 ∨ i = 4 ∨ i = 5 ∨ i = 6 ∨ i = 7 := by omega
    all_goals
      simp [byteAt, told, four, St.list]
      try omega
  simp only [lead, e 0 (by decide), e 1 (by decide), e 2 (by decide), e 3 (by decide), e 4 (by decide), e 5 (by decide), e 6 (by decide), e 7 (by decide)]
  simp
  omega

theorem bytes_eq {B : ByteArray} {l : List UInt8} (h : B.data.toList = l) : (⟨l.toArray⟩ : ByteArray) = B := by
  subst h
  rfl
theorem or_byte (L b : Nat) (hL : L < 72057594037927936) (hb : b < 256) : bits .or .u64 ((L : Int) * 256) (b : Int) = ((L * 256 + b : Nat) : Int) := by
  have e := u64_or_nat (L * 256) b (by omega) (by omega)
  rw [nat_join 8 (L * 256) b (by omega) (by omega)] at e
  rw [← e]
  simp

set_option maxHeartbeats 1000000 in
theorem keysWalk (s : ByteArray) (w : World) (hz : s.size ≤ maxLen) (hT : Tab w) : Calls Tryd.prog 3 #[.string s] w fun e w' => e = .returned (.bool true) ∧ Only (fun _ => False) w w' := by
  unfold maxLen at hz
  have HT := Lib.hid hT
  clear hT
  by_cases h300 : 300 < s.size
  · go_enter Tryd.func3, Tryd.ntmps3
    go_wp2_with fail
    refine (awake w HT.out).mono ?_
    rintro e w1 ⟨rfl, hO1⟩
    have HO1 := Lib.hid hO1
    clear hO1
    go_wp2
    go_ret
    exact ⟨rfl, HO1.out⟩
  · have d3 : decide (300 < (s.size : Int)) = false := by simp; omega
    go_enter Tryd.func3, Tryd.ntmps3
    go_wp2_with fail
    refine (awake w HT.out).mono ?_
    rintro e w1 ⟨rfl, hO1⟩
    have HO1 := Lib.hid hO1
    clear hO1
    go_wp2_with fail
    refine (rof s w1 (by omega)).mono ?_
    have hls := lead_sha s.data.toList
    have hlen := sha_length s.data.toList
    rintro e w2 ⟨rfl, hO2⟩
    have HO2 := Lib.hid (HO1.out.trans hO2)
    clear hO2 HO1
    obtain ⟨K, hK⟩ : ∃ K, sha s.data.toList = K := ⟨_, rfl⟩
    rw [hK] at hls hlen ⊢
    obtain ⟨T, hTe⟩ : ∃ T : ByteArray, (⟨K.toArray⟩ : ByteArray) = T := ⟨_, rfl⟩
    have hTs : T.size = 32 := by rw [← hTe]; simpa [ByteArray.size] using hlen
    have hTd : T.data.toList = K := by rw [← hTe]
    have hTi : (T.size : Int) = 32 := by omega
    rw [hTe]
    have HK := Lib.hid hK
    have HTE := Lib.hid hTe
    have HTD := Lib.hid hTd
    have HLS := Lib.hid hls
    clear hK hTe hTd hls
    go_wp2_with fail
    go_loopg [4, 13] 8 (fun gk v vi wx => ∃ k : Nat, vi = .int .i64 k ∧ v = .int .u64 (lead K k : Nat) ∧ k + gk ≤ 8 ∧ 8 ≤ k + gk ∧ w2 = wx)
    case atStart => exact ⟨0, rfl, rfl, by omega, by omega, rfl⟩
    case round =>
      obtain ⟨k, rfl, rfl, hk, hk2, rfl⟩ := hrel
      by_cases hkl : k < 8
      · obtain ⟨b, hb⟩ : ∃ x, T[k] = x := ⟨_, rfl⟩
        have hbt := byteAt_text T k (by omega)
        rw [HTD.out, hb] at hbt
        have hnx : lead K (k + 1) = lead K k * 256 + byteAt K k := rfl
        rw [hbt] at hnx
        have hlt := lead_lt K k
        have hpw : 256 ^ k ≤ 256 ^ 7 := Nat.pow_le_pow_right (by decide) (by omega)
        obtain ⟨L, hL⟩ : ∃ L, lead K k = L := ⟨_, rfl⟩
        rw [hL] at hnx hlt ⊢
        have hLl : L < 72057594037927936 := by omega
        have hor := or_byte L b.toNat hLl b.toNat_lt
        have k1 : IntKind.u64.wrap (b.toNat : Int) = (b.toNat : Int) := by
          have := b.toNat_lt
          simp [IntKind.wrap, IntKind.bits, IntKind.signed]
          omega
        have i1 : (k : Int) < 32 := by omega
        have HNX := Lib.hid hnx
        clear hnx hL hlt hpw hbt
        go_wp2_with fail
        go_roundg (gk - 1)
        case measure => omega
        case rel => exact ⟨k + 1, by go_num, by rw [HNX.out]; simp, by omega, by omega, rfl⟩
      · obtain rfl : k = 8 := by omega
        rw [HLS.out]
        have C1 := of s w2 (by omega) (HT.out.new HO2.out)
        unfold OfPost at C1
        rw [HK.out, HTE.out] at C1
        have HC1 := Lib.hid C1
        clear C1
        go_wp2_with fail
        refine HC1.out.mono ?_
        rintro e w3 ⟨rfl, hO3⟩
        have HO3 := Lib.hid (HO2.out.trans hO3)
        clear hO3 HO2 HC1
        go_wp2_with fail
        have C2 := hex s w3 (by omega) (HT.out.new HO3.out)
        unfold HexPost at C2
        rw [HK.out] at C2
        refine C2.mono ?_
        rintro e w4 ⟨rfl, hO4⟩
        have HO4 := Lib.hid (HO3.out.trans hO4)
        clear hO4 HO3 C2
        go_wp2_with fail
        have C3 := lhex T w4 (by omega)
        unfold LHexPost at C3
        rw [HTD.out] at C3
        refine C3.mono ?_
        rintro e w5 ⟨B, rfl, hB, hO5⟩
        rw [bytes_eq hB]
        have HO5 := Lib.hid (HO4.out.trans hO5)
        clear hO5 HO4 C3 hB
        go_wp2_with fail
        have C4 := short s w5 (by omega) (HT.out.new HO5.out)
        unfold ShortPost at C4
        refine C4.mono ?_
        rintro e w6 ⟨rfl, hO6⟩
        have HO6 := Lib.hid (HO5.out.trans hO6)
        clear hO6 HO5 C4
        go_wp2
        go_ret
        exact ⟨rfl, HO6.out⟩

theorem row_texts {P : Program} {src dst e : TypeId} (hs : P.underlying src = some (.slice e)) (he : P.underlying e = some (.int .u8)) (hd : P.underlying dst = some .string) {w : World} {g n c : Nat} {l : List UInt8} (h : Row e w (some ⟨g, 0, none⟩) n c (bcells l)) :
    (convert src dst (.slice (some ⟨g, 0, none⟩) n c)).run P w = .ok (.string ⟨l.toArray⟩) w := by
  have hl : l.length = n := by rw [← h.1, bcells_length]
  rw [run_convert_bytes_arg w src e hs he g 0 n c (l.map fun b => (b.toNat : Int)) (by simpa using hl) ?_ dst hd]
  · have e : strOfNums (l.map fun b => (b.toNat : Int)) = ⟨l.toArray⟩ := by simp [strOfNums, Function.comp_def]
    rw [e]
  · intro i hi
    have hi2 : i < l.length := by omega
    rw [Nat.zero_add, (h.at (i := i) (v := .int .u8 l[i].toNat) (by simp [bcells, hi2])).1]
    simp [hi2]

set_option maxHeartbeats 1000000 in
theorem paddedWalk (c : UInt8) (n : Nat) (w : World) (hn : n < 256) (hT : Tab w) : Calls Tryd.prog 4 #[.int .u8 c.toNat, .int .u8 n] w fun e w' => e = .returned (.bool true) ∧ Only (fun _ => False) w w' := by
  have HT := Lib.hid hT
  clear hT
  obtain ⟨m, hm⟩ : ∃ m, n % 200 = m := ⟨_, rfl⟩
  have t1 : (n : Int).tmod 200 = (m : Int) := by rw [← hm, Int.tmod_eq_emod_of_nonneg (by omega)]; rfl
  have t2 : (n : Int) % 200 = (m : Int) := by omega
  have hml : m < 200 := by omega
  have hcl := c.toNat_lt
  have hmk : ∀ W, (Instr.makeSlice 28 (.int .i64 m) (.int .i64 m)).run Tryd.prog W = .ok (.slice (some ⟨W.heap.size, 0, none⟩) m m) (W.alloc (.cells (List.replicate m (.int .u8 0)).toArray 5)) :=
    fun W => run_make_row Tryd.underlying28 info5 (by omega) m (by omega) W
  obtain ⟨Z, hZ⟩ : ∃ Z, (List.replicate m (Value.int .u8 0)).toArray = Z := ⟨_, rfl⟩
  rw [hZ] at hmk
  have HZ := Lib.hid hZ
  clear hm hZ
  go_enter Tryd.func4, Tryd.ntmps4
  go_wp2_with fail
  refine (awake w HT.out).mono ?_
  rintro e w1 ⟨rfl, hO1⟩
  have HO1 := Lib.hid hO1
  clear hO1
  have hM : Made 5 w1 (some ⟨w1.heap.size, 0, none⟩) m m (bcells (List.replicate m 0)) (w1.alloc (.cells Z 5)) := by
    have e : bcells (List.replicate m 0) = List.replicate m (.int .u8 0) := by simp [bcells]
    rw [← HZ.out, e]
    exact made_is (Is.new w1 5 _) ((Only.refl _ w1).alloc _) (by simp) (by unfold maxLen; omega)
  have HM := Lib.hid hM
  clear hM HZ
  go_wp2_with fail
  obtain ⟨g, hg⟩ : ∃ g, w1.heap.size = g := ⟨_, rfl⟩
  obtain ⟨wa, hwa⟩ : ∃ wa, w1.alloc (.cells Z 5) = wa := ⟨_, rfl⟩
  rw [hwa, hg] at HM
  rw [hwa, hg]
  clear hmk hwa hg t1 t2
  go_loopg [15] m (fun gk vi wx => ∃ (i : Nat) (l : List UInt8), vi = .int .i64 i ∧ i + gk ≤ m ∧ m ≤ i + gk ∧ Made 5 w1 (some ⟨g, 0, none⟩) m m (bcells l) wx)
  case atStart => exact ⟨0, _, rfl, by omega, by omega, HM.out⟩
  case round =>
    obtain ⟨i, l, rfl, hk, hk2, hM⟩ := hrel
    clear HM
    have hll : l.length = m := by rw [← hM.1.len, bcells_length]
    by_cases hil : i < m
    · have f := hM.1.at (i := i) (v := .int .u8 l[i].toNat) (by simp [bcells, hll, hil])
      obtain ⟨f1, f2⟩ := f
      have HM := Lib.hid hM
      have i1 : (i : Int) < (m : Int) := by omega
      clear hM
      go_wp2_with fail
      go_roundg (gk - 1)
      case measure => omega
      case rel =>
        refine ⟨i + 1, l.set i c, by go_num, by omega, by omega, ?_, HM.out.2.1.set (p := ⟨g, i, none⟩) (.inr (HM.out.2.2 g ⟨_, rfl, rfl⟩)) _, HM.out.2.2⟩
        rw [← bcells_set]
        exact HM.out.1.set i _
    · have HM := Lib.hid hM
      clear hM
      obtain ⟨T, hTe⟩ : ∃ T : ByteArray, (⟨l.toArray⟩ : ByteArray) = T := ⟨_, rfl⟩
      have hTs : T.size = m := by rw [← hTe]; simpa [ByteArray.size] using hll
      have hrun : ∀ W : World, Only (fun _ => False) wr W → (convert 28 9 (.slice (some ⟨g, 0, none⟩) m m)).run Tryd.prog W = .ok (.string T) W := by
        intro W hW
        have := row_texts (P := Tryd.prog) Tryd.underlying28 Tryd.underlying5 Tryd.underlying9 (HM.out.1.stay hW)
        rw [hTe] at this
        exact this
      have HRUN := Lib.hid hrun
      have HOr := Lib.hid (HO1.out.trans HM.out.2.1)
      clear hrun hTe
      have hsT : T.size ≤ 1000 := by omega
      go_wp2_with fail
      go_region_held3 (fun W => (convert 28 9 (.slice (some ⟨g, 0, none⟩) m m)).run Tryd.prog W = .ok (.string T) W)
        (first | assumption | exact HRUN.out _ ((Only.refl _ wr).drew))
        (first
          | (go_at_call 7
             refine (of T _ (by omega) (HT.out.new HOr.out.drew)).mono ?_
             rintro e w4 ⟨rfl, hO4⟩
             have hs4 := HRUN.out w4 (((Only.refl _ wr).drew).trans hO4)
             have HO4 := Lib.hid hO4
             clear hO4)
          | (go_at_call 6
             refine (rof T _ hsT).mono ?_
             rintro e w5 ⟨rfl, hO5⟩
             have hs5 := HRUN.out w5 ((((Only.refl _ wr).drew).trans HO4.out).trans hO5)
             have HO5 := Lib.hid hO5
             clear hO5))
      go_wp2
      go_ret
      exact ⟨rfl, ((HOr.out.drew).trans HO4.out).trans HO5.out⟩
end Go.Proofs.YtohocbfmjcfdgaaDoor
