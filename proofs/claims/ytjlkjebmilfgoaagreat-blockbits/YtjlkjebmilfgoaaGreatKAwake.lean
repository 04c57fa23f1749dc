/- Layer 11: what a program that refuses everything does not meet. -/
import Derived.Test.YtjlkjebmilfgoaaGreatKHS
namespace Go.Proofs.YtjlkjebmilfgoaaGreat
open Go.RowKit

theorem text_is {bl : List UInt8} {t : ByteArray} (l : List UInt8) (h : TextIs bl t) (hl : l.length = (bl.length + 7) / 8) (he : le l = le2 bl) : t = ⟨l.toArray⟩ := by
  obtain ⟨a⟩ := t
  have h1 : a.toList = l := by
    refine le_inj _ _ ?_ ?_
    · rw [hl, ← h.1]
      show a.toList.length = a.size
      simp
    · rw [he, ← h.2]
  rw [← h1]
theorem nil_see (w : World) : See w w.heap.size none (tks []) := fun i v h => by simp [tks] at h
theorem plain_nil : (plainB [] true).length = 10 ∧ le2 (plainB [] true) = 3 := by decide +kernel
def kAB : ByteArray := ⟨#[97, 98]⟩
theorem stored_ab : (storedB [] kAB true).length = 56 ∧ le2 (storedB [] kAB true) = le [1, 2, 0, 253, 255, 97, 98] := by decide +kernel
theorem plainN_nil : plainN [] = 10 := by decide +kernel
theorem ownN_nil : 10 < ownN [] := by
  unfold ownN
  have h : 14 ≤ (hdrB (talF [])).length := by
    unfold hdrB
    rw [List.length_append, List.length_append, hdr0_length]
    omega
  omega
def YesK (w : World) (e : Ending) (w' : World) : Prop := e = .returned (.bool true) ∧ Only (fun _ => False) w w'
set_option maxRecDepth 20000 in
set_option maxHeartbeats 4000000 in
theorem awake11 (w : World) : Calls Tryz.prog 5 #[] w (YesK w) := by
  have HN1 := Lib.hid (newWf w)
  go_enter Tryz.func5, Tryz.ntmps5
  go_wp2_with fail
  refine HN1.out.mono ?_
  rintro e w1 ⟨rfl, f1, o1⟩
  obtain ⟨b, hb⟩ : ∃ b, w.heap.size = b := ⟨_, rfl⟩
  rw [hb] at f1 ⊢
  have F1 := Lib.hid f1
  have HO1 := Lib.hid o1
  have HB := Lib.hid hb
  clear f1 o1 HN1 hb
  go_wp2_with fail
  refine (newWf w1).mono ?_
  rintro e w2 ⟨rfl, f2, o2⟩
  obtain ⟨v, hv⟩ : ∃ v, w1.heap.size = v := ⟨_, rfl⟩
  rw [hv] at f2 ⊢
  have hbv : b < v := by
    obtain ⟨_, _, _, _, hw, _⟩ := F1.out
    have := hw.wr.1.lt
    omega
  have hv2 : v < w2.heap.size := by
    obtain ⟨_, _, _, _, hw, _⟩ := f2
    exact hw.wr.1.lt
  have HP : Hid (Calls Tryz.prog 12 #[.pointer (some ⟨b, 0, none⟩), .slice none 0 0, .bool true] w2 (StP w2 b (fun j => j = b) (plainB [] true))) := Lib.hid (by
    have := plain b _ [] none 0 0 _ [] true w2 (F1.out.new o2) (nil_see w2) (fun h0 => absurd rfl h0) rfl (by decide) (by decide) rfl
    rw [List.nil_append] at this
    exact this)
  have F2 := Lib.hid f2
  have HO2 := Lib.hid (HO1.out.trans o2)
  have HBV := Lib.hid hbv
  have HV2 := Lib.hid hv2
  have HVV : Hid (w.heap.size ≤ v ∧ w.heap.size ≤ b) := Lib.hid (by have := HB.out; omega)
  clear f2 o2 hv hbv hv2 F1 HO1
  go_wp2_with fail
  refine HP.out.mono ?_
  rintro e w3 ⟨rfl, q3⟩
  have F3 : Hid (Wf w3 v (fun j => j = v) []) := Lib.hid (F2.out.far q3.only fun j e1 e2 => by have := HBV.out; omega)
  have P3 := Lib.hid q3
  have HO3 : Hid (Only (fun _ => False) w w3) := Lib.hid (HO2.out.andThen q3.only fun j e => .inr (by have := HVV.out; omega))
  have HS : Hid (Calls Tryz.prog 8 #[.pointer (some ⟨v, 0, none⟩), .string kAB, .bool true] w3 (StP w3 v (fun j => j = v) (storedB [] kAB true))) := Lib.hid (stored v kAB true _ [] w3 F3.out (by decide) (by decide))
  clear q3 F2 HO2 HP
  have HK : Hid (kAB = ⟨#[97, 98]⟩) := Lib.hid rfl
  rw [HK.out] at HS
  clear HK
  go_wp2_with fail
  refine HS.out.mono ?_
  rintro e w4 ⟨rfl, q4⟩
  have P4 : Hid (Wf w4 b (fun j => j = b ∨ w2.heap.size ≤ j) (plainB [] true)) := Lib.hid (P3.out.wf.far q4.only fun j e1 e2 => by have := HBV.out; have := HV2.out; rcases e1 with e1 | e1 <;> omega)
  have S4 : Hid (Wf w4 v (fun j => j = v ∨ w3.heap.size ≤ j) (storedB [] kAB true)) := Lib.hid q4.wf
  have HO4 : Hid (Only (fun _ => False) w w4) := Lib.hid (HO3.out.andThen q4.only fun j e => .inr (by have := HVV.out; omega))
  have HZ : Hid (Calls Tryz.prog 13 #[.slice none 0 0] w4 (SizesP w4 (plainN []) (ownN []))) := Lib.hid (sizes none 0 0 _ [] w4 (nil_see w4) rfl (by decide) rfl)
  rw [plainN_nil] at HZ
  clear q4 HS P3 F3 HO3 HBV HV2 HVV
  go_wp2_with fail
  refine HZ.out.mono ?_
  rintro e w5 ⟨rfl, o5⟩
  have P5 := Lib.hid (P4.out.new o5)
  have S5 := Lib.hid (S4.out.new o5)
  have HO5 := Lib.hid (HO4.out.trans o5)
  have hy := ownN_nil
  obtain ⟨y, hy2⟩ : ∃ y, ownN [] = y := ⟨_, rfl⟩
  rw [hy2] at hy ⊢
  have hy3 : (10 : Int) < (y : Int) := by omega
  clear o5 HZ P4 S4 HO4 hy2
  go_wp2_with fail
  refine (wtext b _ _ w5 P5.out).mono ?_
  rintro e w6 ⟨⟨t, rfl, ht⟩, rfl⟩
  obtain rfl := text_is [3, 0] ht (by rw [plain_nil.1]; rfl) (by rw [plain_nil.2]; rfl)
  clear ht
  go_wp2_with fail
  refine (wlen b _ _ w5 P5.out).mono ?_
  rintro e w6 ⟨rfl, rfl⟩
  rw [plain_nil.1]
  go_wp2_with fail
  refine (wtext v _ _ w5 S5.out).mono ?_
  rintro e w6 ⟨⟨t, rfl, ht⟩, rfl⟩
  obtain rfl := text_is [1, 2, 0, 253, 255, 97, 98] ht (by rw [stored_ab.1]; rfl) (by rw [stored_ab.2])
  clear ht P5 S5
  go_wp2
  go_ret
  exact ⟨rfl, HO5.out⟩
end Go.Proofs.YtjlkjebmilfgoaaGreat
