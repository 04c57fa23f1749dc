/- Layer 10: the laws' own comparison of two rows; the laws' awake. -/
import Derived.Test.YtlhffflemajlfaaPack
import Derived.Test.YtlhffflemajlfaaRefUn
namespace Go.Proofs.Ytlhffflemajlfaa
open Go.RowKit

def SamePost2 (w : World) (e : Ending) (w' : World) : Prop := e = .returned (.bool true) ∧ ∃ k, w' = w.drewN k
set_option maxHeartbeats 2000000 in
theorem alike (A A2 : Option Addr) (n c c2 B : Nat) (l : List Nat) (w : World) (h : See w B A (ints l)) (h2 : See w B A2 (ints l)) (hn : l.length = n) (hb : n ≤ 1000000) : Calls Try.prog 10 #[.slice A n c, .slice A2 n c2] w (SamePost2 w) := by
  have HS := Lib.hid h
  have HS2 := Lib.hid h2
  have HN := Lib.hid hn
  clear h h2 hn
  go_enter Try.func10, Try.ntmps10
  go_wp2_with fail
  go_loopg [13] n (fun gk i wx => ∃ j : Nat, i = .int .i64 j ∧ j + gk ≤ n ∧ n ≤ j + gk ∧ Hid (∃ k, wx = w.drewN k))
  case atStart => exact ⟨0, rfl, by omega, by omega, Lib.hid ⟨0, rfl⟩⟩
  case round =>
    obtain ⟨j, rfl, hg1, hg2, HK⟩ := hrel
    by_cases hlt : j < n
    · have hsee : ∀ A : Option Addr, See w B A (ints l) → See wr B A (ints l) := fun A h => by obtain ⟨k, hk⟩ := HK.out; rw [hk]; exact h
      obtain ⟨b, off, rfl, _, hc⟩ := (hsee _ HS.out) j _ (ints_at l j (by rw [HN.out]; exact hlt))
      obtain ⟨b2, off2, rfl, _, hc2⟩ := (hsee _ HS2.out) j _ (ints_at l j (by rw [HN.out]; exact hlt))
      obtain ⟨x, hx⟩ : ∃ x, l.getD j 0 = x := ⟨_, rfl⟩
      rw [hx] at hc hc2
      clear hx hsee
      go_wp2_with fail
      go_quiet (fail)
      go_wp2_with fail
      go_roundg (gk - 1)
      case measure => omega
      case rel => exact ⟨j + 1, by go_num, by omega, by omega, Lib.hid (by obtain ⟨k, hk⟩ := HK.out; rw [hk]; exact ⟨_, World.drewN_drewN _ _ _⟩)⟩
    · obtain rfl : j = n := by omega
      go_wp2
      go_ret
      exact ⟨rfl, HK.out⟩

/-- The law's answer: yes; nothing that was there has turned. -/
def Yes (w : World) (e : Ending) (w' : World) : Prop := e = .returned (.bool true) ∧ Only (fun _ => False) w w'
theorem un_two : unF [⟨5, 0⟩, ⟨16, 3⟩] [] = ([5, 5, 5, 5, 5, 5, 5], 0) := by kernel_rfl

set_option maxRecDepth 20000 in
set_option maxHeartbeats 4000000 in
theorem awake (w : World) : Calls Try.prog 6 #[] w (Yes w) := by
  have hmk := run_make_row Try.underlying22 info3 (by decide) 11 (by omega) w
  have hsee : See (w.alloc (.cells (List.replicate 11 (.int .i64 0)).toArray 3)) ((w.alloc (.cells (List.replicate 11 (.int .i64 0)).toArray 3)).heap.size) (some ⟨w.heap.size, 0, none⟩) (ints (List.replicate 11 0)) := (Is.new w 3 (List.replicate 11 (.int .i64 0))).see
  have ho := (Only.refl (fun _ => False) w).alloc (.cells (List.replicate 11 (.int .i64 0)).toArray 3)
  obtain ⟨wa, hwa⟩ : ∃ wa, w.alloc (.cells (List.replicate 11 (.int .i64 0)).toArray 3) = wa := ⟨_, rfl⟩
  rw [hwa] at hmk hsee ho
  have hmk2 : (Instr.makeSlice 22 (.int .i64 11) (.int .i64 11)).run Try.prog w = .ok (.slice (some ⟨w.heap.size, 0, none⟩) 11 11) wa := hmk
  have HP : Hid (Calls Try.prog 7 #[.slice (some ⟨w.heap.size, 0, none⟩) 11 11] wa (PackPost wa (List.replicate 11 0))) := Lib.hid (pack _ 11 11 _ _ _ hsee (by simp) (by omega) (fun x hx => by simp at hx; omega))
  have HO := Lib.hid ho
  clear hsee ho hwa hmk
  go_enter Try.func6, Try.ntmps6
  go_upto_region 2 with (go_at_call 7; refine HP.out.mono ?_; rintro e w1 ⟨A1, q1, c1, p1, rfl, hb1, hp1⟩; have HB1 := Lib.hid hb1; have HP1 := Lib.hid hp1; clear hb1 hp1)
  have hq3 : (q1 : Int) ≤ 3 := by
    have h1 := HP1.out.few (x := 0) (n := 11) rfl
    have h2 := HB1.out.1
    have e : fewF 0 11 = 3 := by decide
    omega
  have hq1 : (0 : Int) < (q1 : Int) := by
    have h2 := HB1.out.1
    have h3 : unF p1 [] = (List.replicate 11 0, 0) := HP1.out.done (by simp)
    rcases Nat.eq_zero_or_pos q1 with h4 | h4
    · rw [List.eq_nil_of_length_eq_zero (h2.trans h4), unF] at h3
      simp at h3
    · omega
  have HO1 := Lib.hid (HO.out.trans HB1.out.2.2.1)
  clear HP HO HB1 HP1 hmk2
  go_upto_region 3 with (go_at_call 9; refine (unpack _ 2 2 _ [⟨5, 0⟩, ⟨16, 3⟩] _ (Is.new w1 36 [.int .i64 5, .int .i64 0, .int .i64 16, .int .i64 3]).see rfl (by omega)).mono ?_; rw [un_two]; rintro e w2 ⟨A2, n2, c2, rfl, hn2, hm2⟩; have HM2 := Lib.hid hm2; clear hm2)
  obtain rfl : 7 = n2 := hn2
  obtain ⟨g2, rfl, hc2, _⟩ := HM2.out.1.cell (i := 6) (v := .int .i64 5) rfl
  have C11 : Hid (∀ w1, Calls Try.prog 11 #[.int .i64 18] w1 fun e w' => e = .returned (.int .i64 7) ∧ w1 = w') := Lib.hid fun w1 => bits 18 w1
  have HO2 := Lib.hid ((HO1.out.alloc _).trans HM2.out.2.1)
  clear HM2 HO1
  go_wp2_with (go_at_call 11; refine (C11.out _).mono ?_; rintro e w3 ⟨rfl, rfl⟩)
  go_ret
  exact ⟨rfl, HO2.out⟩
end Go.Proofs.Ytlhffflemajlfaa
