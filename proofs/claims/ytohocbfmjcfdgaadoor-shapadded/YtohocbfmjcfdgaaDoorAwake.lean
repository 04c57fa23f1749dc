/- Layer 4: what each law asks first, and the law's own digits of base 16. -/
import Derived.Test.YtohocbfmjcfdgaaDoorRefOf
namespace Go.Proofs.YtohocbfmjcfdgaaDoor
open Go.RowKit

def LHexPost (w : World) (l : List UInt8) (e : Ending) (w' : World) : Prop := ∃ B : ByteArray, e = .returned (.string B) ∧ B.data.toList = hexOf l ∧ Only (fun _ => False) w w'

set_option maxHeartbeats 1000000 in
theorem lhex (T : ByteArray) (w : World) (hs : T.size ≤ 1000) : Calls Tryd.prog 9 #[.string T] w (LHexPost w T.data.toList) := by
  have es : (T.size : Int) ≤ 1000 := by omega
  go_enter Tryd.func9, Tryd.ntmps9
  go_wp2_with fail
  go_loopg [3, 7] T.size (fun gk v i wx => ∃ (k : Nat) (B : ByteArray), i = .int .i64 k ∧ v = .string B ∧ k + gk ≤ T.size ∧ T.size ≤ k + gk ∧ B.size = 2 * k ∧ B.data.toList = hexOf (T.data.toList.take k) ∧ Only (fun _ => False) w wx)
  case atStart => exact ⟨0, ⟨#[]⟩, rfl, rfl, by omega, by omega, rfl, rfl, Only.refl _ w⟩
  case round =>
    obtain ⟨k, B, rfl, rfl, hk, hk2, hBs, hBd, hO⟩ := hrel
    by_cases hlt : k < T.size
    · obtain ⟨b, hb⟩ : ∃ x, T[k] = x := ⟨_, rfl⟩
      have hb2 : T.data.toList[k]? = some b := by rw [← hb, List.getElem?_eq_getElem (by simpa using hlt)]; rfl
      have hmore := hex_more T.data.toList k b hb2
      have hbl := b.toNat_lt
      have j1 := index16 (b.toNat / 16) (by omega)
      have j2 := index16 (b.toNat % 16) (by omega)
      obtain ⟨p, hp⟩ : ∃ p, b.toNat / 16 = p := ⟨_, rfl⟩
      obtain ⟨q, hq⟩ : ∃ q, b.toNat % 16 = q := ⟨_, rfl⟩
      have g1 : (b.toNat : Int) / 16 = (p : Int) := by omega
      have g2 : (b.toNat : Int) % 16 = (q : Int) := by omega
      have g3 : (b.toNat : Int).tdiv 16 = (p : Int) := by rw [Int.tdiv_eq_ediv_of_nonneg (by omega)]; exact g1
      have g4 : (b.toNat : Int).tmod 16 = (q : Int) := by rw [Int.tmod_eq_emod_of_nonneg (by omega)]; exact g2
      rw [hp] at j1 hmore
      rw [hq] at j2 hmore
      have k1 : IntKind.u8.wrap (p : Int) = (p : Int) := by rw [IntKind.wrap_u8']; omega
      have k2 : IntKind.u8.wrap (q : Int) = (q : Int) := by rw [IntKind.wrap_u8']; omega
      have i1 : (k : Int) < (T.size : Int) := by omega
      have HMORE := Lib.hid hmore
      have HO := Lib.hid hO
      have HB := Lib.hid hBd
      have HBS := Lib.hid hBs
      have hBl : (B.size : Int) ≤ 2000 := by omega
      clear hmore hO hBd hBs hb2 hp hq
      go_wp2_with fail
      refine InTurn.region 11 (by decide) (by kernel_rfl) (by kernel_rfl) (by kernel_rfl) (fun _ _ d _ _ h => by cases d <;> exact h) ?_
      simp only [List.take_succ_cons, List.take_zero, List.drop_succ_cons, List.drop_zero]
      repeat
        refine InTurn.step ?_
        apply Exists.intro
        refine ⟨Or.inl ⟨by rfl, fun W => ?_⟩, ?_⟩
        · go_simp
          try with_reducible rfl
        simp only [Act.put, List.setIfInBounds_toArray, List.set_cons_zero, List.set_cons_succ]
      refine InTurn.nil ?_
      obtain ⟨wd, hwd⟩ : ∃ wd, wr.drew = wd := ⟨_, rfl⟩
      have HOd := Lib.hid HO.out.drew
      rw [hwd] at HOd ⊢
      clear hwd HO
      have hcv := (Row.of_is (n := 2) (Is.new wd 5 (bcells [digit p, digit q])) rfl (by unfold maxLen; omega)).text (P := Tryd.prog) Tryd.underlying28 Tryd.underlying5 Tryd.underlying9 (by omega)
      obtain ⟨C, hC⟩ : ∃ C : ByteArray, (⟨[digit p, digit q].toArray⟩ : ByteArray) = C := ⟨_, rfl⟩
      have hCs : (C.size : Int) = 2 := by rw [← hC]; rfl
      have hCd : C.data.toList = [digit p, digit q] := by rw [← hC]
      rw [hC] at hcv
      have hcv2 : (convert 28 9 (.slice (some ⟨wd.heap.size, 0, none⟩) 2 2)).run Tryd.prog (wd.alloc (.cells #[.int .u8 ((digit p).toNat : Int), .int .u8 ((digit q).toNat : Int)] 5)) = .ok (.string C) (wd.alloc (.cells #[.int .u8 ((digit p).toNat : Int), .int .u8 ((digit q).toNat : Int)] 5)) := hcv
      have HCD := Lib.hid hCd
      clear hcv hC hCd
      go_wp2_with fail
      go_roundg (gk - 1)
      case measure => omega
      case rel =>
        refine ⟨k + 1, B ++ C, by go_num, rfl, by omega, by omega, ?_, ?_, HOd.out.alloc _⟩
        · have := HBS.out
          rw [ByteArray.size_append]
          omega
        · rw [ByteArray.data_append, Array.toList_append, HB.out, HCD.out, HMORE.out]
    · obtain rfl : k = T.size := by omega
      have hall : T.data.toList.take T.size = T.data.toList := List.take_of_length_le (by simp)
      rw [hall] at hBd
      have HBD := Lib.hid hBd
      clear hBd hBs
      go_wp2
      go_ret
      exact ⟨B, rfl, HBD.out, hO⟩

def tNone : ByteArray := ⟨#[]⟩
def tA : ByteArray := ⟨#[97]⟩

set_option maxHeartbeats 1000000 in
theorem awake (w : World) (hT : Tab w) : Calls Tryd.prog 5 #[] w fun e w' => e = .returned (.bool true) ∧ Only (fun _ => False) w w' := by
  have C1 := hex tNone w (by decide) hT
  unfold HexPost at C1
  have e1 : tNone.data.toList = [] := rfl
  rw [e1, none_hex] at C1
  have HC1 := Lib.hid C1
  have HT := Lib.hid hT
  clear C1 hT e1
  go_enter Tryd.func5, Tryd.ntmps5
  go_wp2_with fail
  refine HC1.out.mono ?_
  rintro e w1 ⟨rfl, hO1⟩
  have HO1 := Lib.hid hO1
  clear hO1 HC1
  go_wp2_with fail
  have C2 := of tA w1 (by decide) (HT.out.new HO1.out)
  unfold OfPost at C2
  have hl := sha_length tA.data.toList
  obtain ⟨T, hTe⟩ : ∃ T : ByteArray, (⟨(sha tA.data.toList).toArray⟩ : ByteArray) = T := ⟨_, rfl⟩
  have hTs : (T.size : Int) = 32 := by rw [← hTe]; rfl
  rw [hTe] at C2
  clear hTe hl
  refine C2.mono ?_
  rintro e w2 ⟨rfl, hO2⟩
  have HO2 := Lib.hid (HO1.out.trans hO2)
  clear hO2 HO1 C2
  go_wp2_with fail
  have C3 := short tNone w2 (by decide) (HT.out.new HO2.out)
  unfold ShortPost at C3
  have e1 : tNone.data.toList = [] := rfl
  rw [e1, none_short] at C3
  clear e1
  refine C3.mono ?_
  rintro e w3 ⟨rfl, hO3⟩
  have HO3 := Lib.hid (HO2.out.trans hO3)
  clear hO3 HO2 C3
  go_wp2
  go_ret
  exact ⟨rfl, HO3.out⟩
end Go.Proofs.YtohocbfmjcfdgaaDoor
