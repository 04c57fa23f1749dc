/- Layer 6: Lengths and Cost, in the program. -/
import Derived.Test.YtjbohidkjlnalaaLMath
import Derived.Test.YtjbohidkjlnalaaCheck
namespace Go.Proofs.Ytjbohidkjlnalaa
open Go.RowKit

def LensPost (w : World) (c : List Nat) (n K most : Nat) (least : List Nat → Nat) (e : Ending) (w' : World) : Prop := ∃ g L, e = .returned (.tuple #[.slice (some ⟨g, 0, none⟩) n n, .int .i64 0]) ∧ Made 3 w (some ⟨g, 0, none⟩) n n (ints L) w' ∧ ∀ W, Wt c W → Good c L K most (least W)
def Refused (w : World) (e : Ending) (w' : World) : Prop := e = .returned (.tuple #[.slice none 0 0, .int .i64 1]) ∧ Only (fun _ => False) w w'
/-- How many symbols come. -/
def some_ (c : List Nat) : Nat := (c.filter fun x => decide (0 < x)).length

theorem Good.same {c L : List Nat} {K most : Nat} {ss : List Nat} {least : List Nat → Nat} (hp : ss.Perm (syms c c.length)) (hr : Rise (ss.map (ln c))) (h : Good c L K most (least (ss.map (ln c)))) : ∀ W, Wt c W → Good c L K most (least W) := fun W hW => by
  rw [hW.eq (Wt.of hp hr)]
  exact h
theorem perm_len {c ss : List Nat} (hp : ss.Perm (syms c c.length)) : ss.length = some_ c := by
  unfold some_
  rw [← syms_map, List.length_map, hp.length_eq]

set_option maxHeartbeats 4000000 in
theorem lengths (A : Option Addr) (n k most B : Nat) (c : List Nat) (w : World) (h : See w B A (ints c)) (hB : B ≤ w.heap.size) (hn : c.length = n) (h288 : n ≤ 288) (hl : Low c) (hm1 : 1 ≤ most) (hm15 : most ≤ 15) (hs : some_ c ≤ 2 ^ most) :
    Calls Try.prog 7 #[.slice A n k, .int .i64 most] w (LensPost w c n 15 most (fun W => leastOf W most)) := by
  have HAl := Lib.hid (allowed_yes A n k B c w h hn h288 hl)
  have HCo := Lib.hid (coming A n k B c w h hB hn h288)
  have HS := Lib.hid h
  have HN := Lib.hid hn
  have HL := Lib.hid hl
  obtain ⟨P, hP⟩ : ∃ P, 2 ^ most = P := ⟨_, rfl⟩
  have hP2 : P ≤ 2 ^ 15 := by rw [← hP]; exact Nat.pow_le_pow_right (by decide) hm15
  have eP : (2 : Int) ^ most = (P : Int) := by rw [← hP]; simp
  have eP2 : wrap64 (P : Int) = (P : Int) := IntWalk.wrap64_in _ (by omega)
  have HP := Lib.hid hP
  rw [hP] at hs
  have d1 : decide ((most : Int) < 1) = false := by simp; omega
  have d2 : decide (15 < (most : Int)) = false := by simp; omega
  clear h hn hl hP
  go_enter Try.func7, Try.ntmps7
  go_wp2_with fail
  refine HAl.out.mono ?_
  rintro e w1 ⟨rfl, rfl⟩
  go_wp2_with fail
  refine HCo.out.mono ?_
  rintro e w1 ⟨As, cap, ss, rfl, ho1, hperm, hsee, hrise⟩
  have hm := perm_len hperm
  have hlt : ∀ x ∈ ss, x < n := fun x hx => by rw [← HN.out]; exact syms_lt c _ x (hperm.mem_iff.1 hx)
  have hmn : ss.length ≤ n := by rw [hperm.length_eq, ← HN.out]; exact syms_length c _
  obtain ⟨m, hm2⟩ : ∃ m, ss.length = m := ⟨_, rfl⟩
  rw [hm2] at hm hmn
  have HC2 := Lib.hid (countsOf A As n k m cap B _ c ss w1 (HS.out.new ho1) hsee HN.out hm2 hlt (by omega))
  have HO1 := Lib.hid ho1
  have HPm := Lib.hid hperm
  have HSe := Lib.hid hsee
  have HRi := Lib.hid hrise
  have HLt := Lib.hid hlt
  have HM2 := Lib.hid hm2
  have hmP : m ≤ P := by omega
  rw [hm2]
  clear ho1 hperm hsee hrise hlt hm2 HAl HCo hm
  go_wp2_with fail
  refine HC2.out.mono ?_
  rintro e w2 ⟨g2, rfl, hm3⟩
  have hwl : (ss.map (ln c)).length = m := by rw [List.length_map, HM2.out]
  rw [hwl] at hm3 ⊢
  have HM3 := Lib.hid hm3
  have HD : Hid (Calls Try.prog 19 #[.slice (some ⟨g2, 0, none⟩) m m, .int .i64 most] w2 (DeepPost w2 (if m < 2 then List.replicate m 0 else dpt m (lv (ss.map (ln c)) (most - 1) (2 * (m - 1)))) m)) := Lib.hid (by
    by_cases h2 : m < 2
    · rw [if_pos h2]
      exact deepFew _ m m most w2 h2
    · rw [if_neg h2]
      exact limitedDepths _ m m most _ (ss.map (ln c)) w2 hm3.see hwl (by omega) (by omega) ((Wt.of HPm.out HRi.out).low HL.out) hm1 hm15 (by rw [HP.out]; exact hmP))
  clear hm3 HC2 hwl
  go_wp2_with fail
  refine HD.out.mono ?_
  rintro e w3 ⟨g3, rfl, hm4⟩
  obtain ⟨dl, hdl⟩ : ∃ dl, (if m < 2 then List.replicate m 0 else dpt m (lv (ss.map (ln c)) (most - 1) (2 * (m - 1)))) = dl := ⟨_, rfl⟩
  have hdll : dl.length = m := by rw [← hdl]; split <;> simp [dpt_length]
  rw [hdl] at hm4
  have HF := Lib.hid (fitted As (some ⟨g3, 0, none⟩) n m cap m _ _ ss dl w3 (HSe.out.new (HM3.out.2.1.trans hm4.2.1)) hm4.see HM2.out hdll HLt.out h288 (by omega))
  have HO4 := Lib.hid (HO1.out.trans (HM3.out.2.1.trans hm4.2.1))
  have HG : Hid (Good c (fit n ss dl m) 15 most (leastOf (ss.map (ln c)) most)) := Lib.hid (by
    have := pack_good HPm.out HRi.out hm1 hm15 (by rw [HM2.out, HP.out]; exact hmP)
    rw [HM2.out, HN.out, hdl] at this
    exact this)
  clear hm4 HD hdl hdll
  go_wp2_with fail
  refine HF.out.mono ?_
  rintro e w4 ⟨g4, rfl, hm5⟩
  have HZ : Hid (LensPost w c n 15 most (fun W => leastOf W most) (.returned (.tuple #[.slice (some ⟨g4, 0, none⟩) n n, .int .i64 0])) w4) := Lib.hid ⟨g4, _, rfl, ⟨hm5.1, HO4.out.trans hm5.2.1, fun j hj => Nat.le_trans HO4.out.size (hm5.2.2 j hj)⟩, Good.same (least := fun W => leastOf W most) HPm.out HRi.out HG.out⟩
  clear hm5 HF HG
  go_wp2
  go_ret2
  exact HZ.out

set_option maxHeartbeats 4000000 in
theorem lengths_many (A : Option Addr) (n k most B : Nat) (c : List Nat) (w : World) (h : See w B A (ints c)) (hB : B ≤ w.heap.size) (hn : c.length = n) (h288 : n ≤ 288) (hl : Low c) (hm1 : 1 ≤ most) (hm15 : most ≤ 15) (hs : 2 ^ most < some_ c) :
    Calls Try.prog 7 #[.slice A n k, .int .i64 most] w (Refused w) := by
  have HAl := Lib.hid (allowed_yes A n k B c w h hn h288 hl)
  have HCo := Lib.hid (coming A n k B c w h hB hn h288)
  obtain ⟨P, hP⟩ : ∃ P, 2 ^ most = P := ⟨_, rfl⟩
  have hP2 : P ≤ 2 ^ 15 := by rw [← hP]; exact Nat.pow_le_pow_right (by decide) hm15
  have eP : (2 : Int) ^ most = (P : Int) := by rw [← hP]; simp
  have eP2 : wrap64 (P : Int) = (P : Int) := IntWalk.wrap64_in _ (by omega)
  rw [hP] at hs
  have d1 : decide ((most : Int) < 1) = false := by simp; omega
  have d2 : decide (15 < (most : Int)) = false := by simp; omega
  clear h hl hP
  go_enter Try.func7, Try.ntmps7
  go_wp2_with fail
  refine HAl.out.mono ?_
  rintro e w1 ⟨rfl, rfl⟩
  go_wp2_with fail
  refine HCo.out.mono ?_
  rintro e w1 ⟨As, cap, ss, rfl, ho1, hperm, hsee, hrise⟩
  have hm := perm_len hperm
  obtain ⟨m, hm2⟩ : ∃ m, ss.length = m := ⟨_, rfl⟩
  rw [hm2] at hm
  have HO1 := Lib.hid ho1
  have hmP : P < m := by omega
  rw [hm2]
  clear ho1 hperm hsee hrise hm2 HAl HCo hm
  go_wp2
  go_ret2
  exact ⟨rfl, HO1.out⟩

set_option maxHeartbeats 2000000 in
theorem lengths_most (A : Option Addr) (n k : Nat) (most : Int) (b : Bool) (w : World) (h : Calls Try.prog 16 #[.slice A n k] w fun e w' => e = .returned (.bool b) ∧ w = w') (hm : b = false ∨ most < 1 ∨ 15 < most) :
    Calls Try.prog 7 #[.slice A n k, .int .i64 most] w (Refused w) := by
  have HAl := Lib.hid h
  clear h
  cases b with
  | false =>
    clear hm
    go_enter Try.func7, Try.ntmps7
    go_wp2_with fail
    refine HAl.out.mono ?_
    rintro e w1 ⟨rfl, rfl⟩
    go_wp2
    go_ret2
    exact ⟨rfl, Only.refl _ _⟩
  | true =>
    by_cases h1 : most < 1
    · have d1 : decide (most < 1) = true := by simpa using h1
      clear hm
      go_enter Try.func7, Try.ntmps7
      go_wp2_with fail
      refine HAl.out.mono ?_
      rintro e w1 ⟨rfl, rfl⟩
      go_wp2
      go_ret2
      exact ⟨rfl, Only.refl _ _⟩
    · have h2 : 15 < most := by rcases hm with h | h | h <;> simp_all
      have d1 : decide (most < 1) = false := by simpa using h1
      have d2 : decide (15 < most) = true := by simpa using h2
      clear hm
      go_enter Try.func7, Try.ntmps7
      go_wp2_with fail
      refine HAl.out.mono ?_
      rintro e w1 ⟨rfl, rfl⟩
      go_wp2
      go_ret2
      exact ⟨rfl, Only.refl _ _⟩
end Go.Proofs.Ytjbohidkjlnalaa
