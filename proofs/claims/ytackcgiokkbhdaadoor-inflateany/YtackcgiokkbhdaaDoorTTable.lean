/- Layer 7: the rows of lengths and of distances, by the document. -/
import Derived.Test.YtackcgiokkbhdaaDoorTTrip
namespace Go.Proofs.YtackcgiokkbhdaaDoor
open Go.RowKit

def SyPost (w : World) (n : Nat) (R : List Sy) (e : Ending) (w' : World) : Prop := ∃ A c, e = .returned (.slice A n c) ∧ SyMade w A n c R w'
def lfirst (j : Nat) : List Sy := (List.range j).map lrow
def dfirst (j : Nat) : List Sy := (List.range j).map drow
theorem lfirst_snoc (j : Nat) : lfirst j ++ [lrow j] = lfirst (j + 1) := by simp [lfirst, List.range_succ]
theorem dfirst_snoc (j : Nat) : dfirst j ++ [drow j] = dfirst (j + 1) := by simp [dfirst, List.range_succ]
theorem lb_le (j : Nat) (h : j < 28) : lb j ≤ 5 := by unfold lb; split <;> omega
theorem db_le (j : Nat) (h : j < 30) : db j ≤ 13 := by unfold db; split <;> omega
theorem lf_all : ∀ j : Fin 29, lf j.val ≤ 259 := by decide +kernel
theorem df_all : ∀ j : Fin 31, df j.val ≤ 32769 := by decide +kernel
theorem lf_le (j : Nat) (h : j ≤ 28) : lf j ≤ 259 := lf_all ⟨j, by omega⟩
theorem df_le (j : Nat) (h : j ≤ 30) : df j ≤ 32769 := df_all ⟨j, by omega⟩

set_option maxHeartbeats 4000000 in
theorem rdistances (w : World) : Calls Tryd.prog 37 #[] w (SyPost w 30 drows) := by
  go_enter Tryd.func37, Tryd.ntmps37
  go_wp2_with fail
  go_loopg [1, 2, 3] 30 (fun gk v1 v2 i wx => ∃ (j F : Nat) (A : Option Addr) (c : Nat), i = .int .i64 j ∧ v2 = .int .i64 F ∧ v1 = .slice A j c ∧ j + gk ≤ 30 ∧ 30 ≤ j + gk ∧ F ≤ 32769 ∧ Hid (df j = F) ∧ Hid (SyMade w A j c (dfirst j) wx))
  case atStart => exact ⟨0, 1, none, 0, rfl, rfl, rfl, by omega, by omega, by omega, Lib.hid rfl, Lib.hid ⟨Rs.nil 102 3 w, Only.refl _ w, by rintro j ⟨ad, e, _⟩; cases e⟩⟩
  case round =>
    obtain ⟨j, F, A, c, rfl, rfl, rfl, hg1, hg2, hF, HF, HS⟩ := hrel
    by_cases hlt : j < 30
    · obtain ⟨y, hy⟩ : ∃ y, db j = y := ⟨_, rfl⟩
      have hy13 : y ≤ 13 := hy ▸ db_le j hlt
      obtain ⟨p, hp⟩ : ∃ p, 2 ^ y = p := ⟨_, rfl⟩
      have hF2 : F + p ≤ 32769 := by rw [← hp, ← hy, ← HF.out]; exact df_le (j + 1) (by omega)
      have HF2 : Hid (df (j + 1) = F + p) := Lib.hid (by rw [df, HF.out, hy, hp])
      have HP := Lib.hid hp
      have HR : Hid (syc (drow j) = [.int .i64 (j : Nat), .int .i64 (F : Nat), .int .i64 (y : Nat)]) := Lib.hid (by simp [syc, drow, HF.out, hy])
      clear hp
      by_cases hj : j < 4
      · obtain rfl : y = 0 := by rw [← hy]; simp [db, hj]
        clear hy
        go_upto_region 9 with fail
        go_wp2_with (first
          | (go_at_call 48; refine (power 0 _ (by omega)).mono ?_; rintro e w' ⟨rfl, rfl⟩; rw [HP.out])
          | (at_builtin
             refine wpList_append_rs rfl (.tmp 14) (.tmp 19) 89 89 102 rfl Tryd.underlying89 info102 zero51 A j c (sys (dfirst j)) [.int .i64 (j : Nat), .int .i64 (F : Nat), .int .i64 (0 : Nat)] (.slice (some ⟨wr.heap.size, 0, none⟩) 1 1) (by rfl) (by rfl) (HS.out.1.alloc _) (Src.oneSym wr j F 0 1 102) (by omega) (by omega) ?_
             intro A3 c3 w3 hrow2 honly2 hlies2
             have H3 : Hid (SyMade w A3 (j + 1) c3 (dfirst (j + 1)) w3) := Lib.hid (HS.out.append (by rw [← dfirst_snoc, ← sys_snoc, HR.out]; exact hrow2) honly2 hlies2)
             clear hrow2 honly2 hlies2))
        go_roundg (gk - 1)
        case measure => omega
        case rel => exact ⟨j + 1, F + p, A3, c3, by go_num, by go_num, rfl, by omega, by omega, by omega, HF2, H3⟩
      · have e : ((j : Int) - 2) / 2 = (y : Int) := by rw [← hy]; simp only [db, if_neg hj]; omega
        clear hy
        go_upto_region 9 with fail
        rw [e]
        clear e
        go_wp2_with (first
          | (go_at_call 48; refine (power y _ (by omega)).mono ?_; rintro e w' ⟨rfl, rfl⟩; rw [HP.out])
          | (at_builtin
             refine wpList_append_rs rfl (.tmp 14) (.tmp 19) 89 89 102 rfl Tryd.underlying89 info102 zero51 A j c (sys (dfirst j)) [.int .i64 (j : Nat), .int .i64 (F : Nat), .int .i64 (y : Nat)] (.slice (some ⟨wr.heap.size, 0, none⟩) 1 1) (by rfl) (by rfl) (HS.out.1.alloc _) (Src.oneSym wr j F y 1 102) (by omega) (by omega) ?_
             intro A3 c3 w3 hrow2 honly2 hlies2
             have H3 : Hid (SyMade w A3 (j + 1) c3 (dfirst (j + 1)) w3) := Lib.hid (HS.out.append (by rw [← dfirst_snoc, ← sys_snoc, HR.out]; exact hrow2) honly2 hlies2)
             clear hrow2 honly2 hlies2))
        go_roundg (gk - 1)
        case measure => omega
        case rel => exact ⟨j + 1, F + p, A3, c3, by go_num, by go_num, rfl, by omega, by omega, by omega, HF2, H3⟩
    · obtain rfl : j = 30 := by omega
      have HN : Hid (SyPost w 30 drows (.returned (.slice A 30 c)) wr) := Lib.hid ⟨A, c, rfl, HS.out⟩
      go_wp2
      go_ret
      exact HN.out

set_option maxRecDepth 20000 in
set_option maxHeartbeats 8000000 in
theorem rlengths (w : World) : Calls Tryd.prog 36 #[] w (SyPost w 29 lrows) := by
  go_enter Tryd.func36, Tryd.ntmps36
  go_wp2_with fail
  go_loopg [1, 2, 3] 28 (fun gk v1 v2 i wx => ∃ (j S F : Nat) (A : Option Addr) (c : Nat), i = .int .i64 S ∧ v2 = .int .i64 F ∧ v1 = .slice A j c ∧ 257 + j = S ∧ j + gk ≤ 28 ∧ 28 ≤ j + gk ∧ F ≤ 259 ∧ Hid (lf j = F) ∧ Hid (SyMade w A j c (lfirst j) wx))
  case atStart => exact ⟨0, 257, 3, none, 0, rfl, rfl, rfl, by omega, by omega, by omega, by omega, Lib.hid rfl, Lib.hid ⟨Rs.nil 102 3 w, Only.refl _ w, by rintro j ⟨ad, e, _⟩; cases e⟩⟩
  case round =>
    obtain ⟨j, S, F, A, c, rfl, rfl, rfl, hS, hg1, hg2, hF, HF, HS⟩ := hrel
    obtain ⟨gO, hgO⟩ : ∃ gO, gk = gO := ⟨_, rfl⟩
    by_cases hlt : j < 28
    · obtain ⟨y, hy⟩ : ∃ y, lb j = y := ⟨_, rfl⟩
      have hy5 : y ≤ 5 := hy ▸ lb_le j hlt
      obtain ⟨p, hp⟩ : ∃ p, 2 ^ y = p := ⟨_, rfl⟩
      have hF2 : F + p ≤ 259 := by rw [← hp, ← hy, ← HF.out]; exact lf_le (j + 1) (by omega)
      have HF2 : Hid (lf (j + 1) = F + p) := Lib.hid (by rw [lf, HF.out, hy, hp])
      have HP := Lib.hid hp
      have HR : Hid (syc (lrow j) = [.int .i64 (S : Nat), .int .i64 (F : Nat), .int .i64 (y : Nat)]) := Lib.hid (by simp [syc, lrow, HF.out, hy, ← hS])
      clear hp
      by_cases hj : j < 8
      · obtain rfl : y = 0 := by rw [← hy]; simp [lb, hj]
        clear hy
        go_upto_region 9 with fail
        go_wp2_with (first
          | (at_builtin
             refine wpList_append_rs rfl (.tmp 15) (.tmp 20) 89 89 102 rfl Tryd.underlying89 info102 zero51 A j c (sys (lfirst j)) [.int .i64 (S : Nat), .int .i64 (F : Nat), .int .i64 (0 : Nat)] (.slice (some ⟨wr.heap.size, 0, none⟩) 1 1) (by rfl) (by rfl) (HS.out.1.alloc _) (Src.oneSym wr S F 0 1 102) (by omega) (by omega) ?_
             intro A3 c3 w3 hrow2 honly2 hlies2
             have H3 : Hid (SyMade w A3 (j + 1) c3 (lfirst (j + 1)) w3) := Lib.hid (HS.out.append (by rw [← lfirst_snoc, ← sys_snoc, HR.out]; exact hrow2) honly2 hlies2)
             clear hrow2 honly2 hlies2)
          | fail)
        go_loopg [2, 5] p (fun gk v2 i wx => ∃ (k f : Nat), i = .int .i64 k ∧ v2 = .int .i64 f ∧ F + k = f ∧ k + gk ≤ p ∧ p ≤ k + gk ∧ wx = w3)
        case atStart => exact ⟨0, F, rfl, rfl, by omega, by omega, by omega, rfl⟩
        case round =>
          obtain ⟨k, f, rfl, rfl, hf, hk1, hk2, rfl⟩ := hrel
          by_cases hkp : k < p
          · go_wp2_with (go_at_call 48; refine (power 0 _ (by omega)).mono ?_; rintro e w' ⟨rfl, rfl⟩; rw [HP.out])
            go_roundg (gk - 1)
            case measure => omega
            case rel => exact ⟨k + 1, f + 1, by go_num, by go_num, by omega, by omega, by omega, rfl⟩
          · obtain rfl : k = p := by omega
            go_wp2_with (go_at_call 48; refine (power 0 _ (by omega)).mono ?_; rintro e w' ⟨rfl, rfl⟩; rw [HP.out])
            go_roundg (gO - 1)
            case measure => omega
            case rel => exact ⟨j + 1, S + 1, F + k, A3, c3, by go_num, by rw [hf], rfl, by omega, by omega, by omega, by omega, HF2, H3⟩
      · have e : ((S : Int) - 261) / 4 = (y : Int) := by rw [← hy]; simp only [lb, if_neg hj]; omega
        clear hy
        go_upto_region 9 with fail
        rw [e]
        clear e
        go_wp2_with (first
          | (at_builtin
             refine wpList_append_rs rfl (.tmp 15) (.tmp 20) 89 89 102 rfl Tryd.underlying89 info102 zero51 A j c (sys (lfirst j)) [.int .i64 (S : Nat), .int .i64 (F : Nat), .int .i64 (y : Nat)] (.slice (some ⟨wr.heap.size, 0, none⟩) 1 1) (by rfl) (by rfl) (HS.out.1.alloc _) (Src.oneSym wr S F y 1 102) (by omega) (by omega) ?_
             intro A3 c3 w3 hrow2 honly2 hlies2
             have H3 : Hid (SyMade w A3 (j + 1) c3 (lfirst (j + 1)) w3) := Lib.hid (HS.out.append (by rw [← lfirst_snoc, ← sys_snoc, HR.out]; exact hrow2) honly2 hlies2)
             clear hrow2 honly2 hlies2)
          | fail)
        go_loopg [2, 5] p (fun gk v2 i wx => ∃ (k f : Nat), i = .int .i64 k ∧ v2 = .int .i64 f ∧ F + k = f ∧ k + gk ≤ p ∧ p ≤ k + gk ∧ wx = w3)
        case atStart => exact ⟨0, F, rfl, rfl, by omega, by omega, by omega, rfl⟩
        case round =>
          obtain ⟨k, f, rfl, rfl, hf, hk1, hk2, rfl⟩ := hrel
          by_cases hkp : k < p
          · go_wp2_with (go_at_call 48; refine (power y _ (by omega)).mono ?_; rintro e w' ⟨rfl, rfl⟩; rw [HP.out])
            go_roundg (gk - 1)
            case measure => omega
            case rel => exact ⟨k + 1, f + 1, by go_num, by go_num, by omega, by omega, by omega, rfl⟩
          · obtain rfl : k = p := by omega
            go_wp2_with (go_at_call 48; refine (power y _ (by omega)).mono ?_; rintro e w' ⟨rfl, rfl⟩; rw [HP.out])
            go_roundg (gO - 1)
            case measure => omega
            case rel => exact ⟨j + 1, S + 1, F + k, A3, c3, by go_num, by rw [hf], rfl, by omega, by omega, by omega, by omega, HF2, H3⟩
    · obtain rfl : j = 28 := by omega
      obtain rfl : S = 285 := by omega
      go_upto_region 14 with fail
      go_wp2_with (at_builtin
                   refine wpList_append_rs rfl (.tmp 30) (.tmp 32) 89 89 102 rfl Tryd.underlying89 info102 zero51 A 28 c (sys (lfirst 28)) [.int .i64 (285 : Nat), .int .i64 (258 : Nat), .int .i64 (0 : Nat)] (.slice (some ⟨wr.heap.size, 0, none⟩) 1 1) (by rfl) (by rfl) (HS.out.1.alloc _) (Src.oneSym wr 285 258 0 1 102) (by omega) (by omega) ?_
                   intro A3 c3 w3 hrow2 honly2 hlies2
                   have H3 : Hid (SyMade w A3 29 c3 lrows w3) := Lib.hid (HS.out.append (by rw [lrows, ← sys_snoc]; exact hrow2) honly2 hlies2)
                   clear hrow2 honly2 hlies2)
      go_ret
      exact ⟨A3, c3, rfl, H3.out⟩
end Go.Proofs.YtackcgiokkbhdaaDoor
