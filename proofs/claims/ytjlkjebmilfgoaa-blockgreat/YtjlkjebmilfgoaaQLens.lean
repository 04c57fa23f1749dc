/- Layer 6: Lengths and Cost, in the program. -/
import Derived.Test.YtjlkjebmilfgoaaQC
import Derived.Test.YtjlkjebmilfgoaaQCheck
namespace Go.Proofs.Ytjlkjebmilfgoaa
open Go.RowKit

/-- The program's lengths, by packages. -/
def lens6 (c : List Nat) (most : Nat) : List Nat := fit c.length (order6 c) (if (order6 c).length < 2 then List.replicate (order6 c).length 0 else dpt (order6 c).length (lv6 ((order6 c).map (ln c)) (most - 1) (2 * ((order6 c).length - 1)))) (order6 c).length
def LensPost (w : World) (c : List Nat) (n most : Nat) (e : Ending) (w' : World) : Prop := ∃ g, e = .returned (.tuple #[.slice (some ⟨g, 0, none⟩) n n, .int .i64 0]) ∧ Made 3 w (some ⟨g, 0, none⟩) n n (ints (lens6 c most)) w'
def Refused (w : World) (e : Ending) (w' : World) : Prop := e = .returned (.tuple #[.slice none 0 0, .int .i64 1]) ∧ Only (fun _ => False) w w'
/-- How many symbols come. -/
def some_ (c : List Nat) : Nat := (c.filter fun x => decide (0 < x)).length

theorem perm_len {c ss : List Nat} (hp : ss.Perm (syms c c.length)) : ss.length = some_ c := by
  unfold some_
  rw [← syms_map, List.length_map, hp.length_eq]

set_option maxHeartbeats 4000000 in
theorem lengths (A : Option Addr) (n k most B : Nat) (c : List Nat) (w : World) (h : See w B A (ints c)) (hB : B ≤ w.heap.size) (hn : c.length = n) (h288 : n ≤ 288) (hl : Low6 c) (hm1 : 1 ≤ most) (hm15 : most ≤ 15) (hs : some_ c ≤ 2 ^ most) :
    Calls Try.prog 47 #[.slice A n k, .int .i64 most] w (LensPost w c n most) := by
  have HAl := Lib.hid (allowed_yes6 A n k B c w h hn h288 hl)
  have HCo := Lib.hid (coming A n k B c w h hB hn h288)
  have HS := Lib.hid h
  have HN := Lib.hid hn
  have HL := Lib.hid hl
  obtain ⟨P, hP⟩ : ∃ P, 2 ^ most = P := ⟨_, rfl⟩
  have hP2 : P ≤ 2 ^ 15 := by rw [← hP]; exact Nat.pow_le_pow_right (by decide) hm15
  have eP : (2 : Int) ^ most = (P : Int) := by rw [← hP]; simp
  have eP2 : wrap64 (P : Int) = (P : Int) := IntWalk.wrap64_in _ (by omega)
  have HP := Lib.hid hP
  rw [hP] at hs
  have d1 : decide ((most : Int) < 1) = false := by simp; omega
  have d2 : decide (15 < (most : Int)) = false := by simp; omega
  clear h hn hl hP
  go_enter Try.func47, Try.ntmps47
  go_wp2_with fail
  refine HAl.out.mono ?_
  rintro e w1 ⟨rfl, rfl⟩
  go_wp2_with fail
  refine HCo.out.mono ?_
  rintro e w1 ⟨As, cap, ss, rfl, ho1, hss, hsee, hrise⟩
  have hperm : ss.Perm (syms c c.length) := by rw [hss]; exact order6_perm c
  have HSS := Lib.hid hss
  clear hss
  have hm := perm_len hperm
  have hlt : ∀ x ∈ ss, x < n := fun x hx => by rw [← HN.out]; exact syms_lt c _ x (hperm.mem_iff.1 hx)
  have hmn : ss.length ≤ n := by rw [hperm.length_eq, ← HN.out]; exact syms_length c _
  obtain ⟨m, hm2⟩ : ∃ m, ss.length = m := ⟨_, rfl⟩
  rw [hm2] at hm hmn
  have HC2 := Lib.hid (countsOf A As n k m cap B _ c ss w1 (HS.out.new ho1) hsee HN.out hm2 hlt (by omega))
  have HO1 := Lib.hid ho1
  have HPm := Lib.hid hperm
  have HSe := Lib.hid hsee
  have HRi := Lib.hid hrise
  have HLt := Lib.hid hlt
  have HM2 := Lib.hid hm2
  have hmP : m ≤ P := by omega
  rw [hm2]
  clear ho1 hperm hsee hrise hlt hm2 HAl HCo hm
  go_wp2_with fail
  refine HC2.out.mono ?_
  rintro e w2 ⟨g2, rfl, hm3⟩
  have hwl : (ss.map (ln c)).length = m := by rw [List.length_map, HM2.out]
  rw [hwl] at hm3 ⊢
  have HM3 := Lib.hid hm3
  have HD : Hid (Calls Try.prog 69 #[.slice (some ⟨g2, 0, none⟩) m m, .int .i64 most] w2 (DeepPost w2 (if m < 2 then List.replicate m 0 else dpt m (lv6 (ss.map (ln c)) (most - 1) (2 * (m - 1)))) m)) := Lib.hid (by
    by_cases h2 : m < 2
    · rw [if_pos h2]
      exact deepFew _ m m most w2 h2
    · rw [if_neg h2]
      exact limitedDepths _ m m most _ (ss.map (ln c)) w2 hm3.see hwl (by omega) (by omega) ((Wt6.of HPm.out HRi.out).low HL.out) hm1 hm15 (by rw [HP.out]; exact hmP))
  clear hm3 HC2 hwl
  go_wp2_with fail
  refine HD.out.mono ?_
  rintro e w3 ⟨g3, rfl, hm4⟩
  obtain ⟨dl, hdl⟩ : ∃ dl, (if m < 2 then List.replicate m 0 else dpt m (lv6 (ss.map (ln c)) (most - 1) (2 * (m - 1)))) = dl := ⟨_, rfl⟩
  have hdll : dl.length = m := by rw [← hdl]; split <;> simp [dpt_length]
  rw [hdl] at hm4
  have HF := Lib.hid (fitted As (some ⟨g3, 0, none⟩) n m cap m _ _ ss dl w3 (HSe.out.new (HM3.out.2.1.trans hm4.2.1)) hm4.see HM2.out hdll HLt.out h288 (by omega))
  have HO4 := Lib.hid (HO1.out.trans (HM3.out.2.1.trans hm4.2.1))
  have HG : Hid (fit n ss dl m = lens6 c most) := Lib.hid (by rw [← hdl, ← HM2.out, HSS.out, ← HN.out]; rfl)
  clear hm4 HD hdl hdll
  go_wp2_with fail
  refine HF.out.mono ?_
  rintro e w4 ⟨g4, rfl, hm5⟩
  have HZ : Hid (LensPost w c n most (.returned (.tuple #[.slice (some ⟨g4, 0, none⟩) n n, .int .i64 0])) w4) := Lib.hid ⟨g4, rfl, by rw [← HG.out]; exact ⟨hm5.1, HO4.out.trans hm5.2.1, fun j hj => Nat.le_trans HO4.out.size (hm5.2.2 j hj)⟩⟩
  clear hm5 HF HG
  go_wp2
  go_ret2
  exact HZ.out

theorem lens6_good (c : List Nat) (most : Nat) (hr : Rise ((order6 c).map (ln c))) (hm : 1 ≤ most) (hm15 : most ≤ 15) (hs : some_ c ≤ 2 ^ most) : Good c (lens6 c most) 15 most (leastOf ((order6 c).map (ln c)) most) :=
  pack_good (order6_perm c) hr hm hm15 (by rw [perm_len (order6_perm c)]; exact hs)
theorem order6_rise (c : List Nat) : Rise ((order6 c).map (ln c)) := by
  have h1 : (order6 c).Pairwise (By c) := (List.pairwise_mergeSort (le := fun a b => decide (By c a b)) (fun x y z h1 h2 => decide_eq_true ((of_decide_eq_true h1).trans (of_decide_eq_true h2))) (fun x y => by rcases By.total c x y with h | h <;> simp [h]) _).imp fun h => of_decide_eq_true h
  exact By.rise h1
theorem lens6_good' (c : List Nat) (most : Nat) (hm : 1 ≤ most) (hm15 : most ≤ 15) (hs : some_ c ≤ 2 ^ most) : Good c (lens6 c most) 15 most (leastOf ((order6 c).map (ln c)) most) := lens6_good c most (order6_rise c) hm hm15 hs
end Go.Proofs.Ytjlkjebmilfgoaa
