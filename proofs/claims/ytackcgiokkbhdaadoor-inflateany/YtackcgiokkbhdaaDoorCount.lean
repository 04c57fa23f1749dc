/- Layer 5: the program's counts of lengths, and its Check. -/
import Derived.Test.YtackcgiokkbhdaaDoorCheck
namespace Go.Proofs.YtackcgiokkbhdaaDoor
open Go.RowKit

/-- How many have each length up to 15. -/
def cnts (l : List Nat) : List Nat := (List.range 16).map (cn l)
theorem cnts_length (l : List Nat) : (cnts l).length = 16 := by simp [cnts]
theorem cn_take (l : List Nat) (k j : Nat) (h : k < l.length) : cn (l.take (k + 1)) j = cn (l.take k) j + if ln l k = j ∧ j ≠ 0 then 1 else 0 := by
  have h3 : l.take (k + 1) = l.take k ++ [ln l k] := by rw [List.take_add_one]; simp [ln, h]
  unfold cn
  by_cases hj : j = 0
  · simp [hj]
  · by_cases hx : ln l k = j
    · rw [h3]; simp [hj, hx, List.count_append]
    · rw [h3]; simp [hj, hx, List.count_append]
theorem cnts_take (l : List Nat) (k : Nat) (h : k < l.length) (h0 : 0 < ln l k) : (cnts (l.take k)).set (ln l k) (cn (l.take k) (ln l k) + 1) = cnts (l.take (k + 1)) := by
  refine map_set 16 _ _ _ _ ?_ fun t _ ht => ?_
  · rw [cn_take l k _ h, if_pos ⟨rfl, by omega⟩]
  · rw [cn_take l k _ h, if_neg (fun x => ht x.1.symm), Nat.add_zero]
theorem cnts_take0 (l : List Nat) (k : Nat) (h : k < l.length) (h0 : ln l k = 0) : cnts (l.take (k + 1)) = cnts (l.take k) := by
  refine map_same 16 _ _ fun t _ => ?_
  rw [cn_take l k _ h, if_neg (fun x => x.2 (by omega)), Nat.add_zero]
theorem index16 (f : Nat → Nat) (k : Nat) (h : k < 16) (W : World) : (Instr.index 142 (.agg (ints ((List.range 16).map f)).toArray) (.int .i64 (k : Int))).run Tryd.prog W = .ok (.int .i64 (f k : Nat)) W := by
  obtain rfl | rfl | rfl | rfl | rfl | rfl | rfl | rfl | rfl | rfl | rfl | rfl | rfl | rfl | rfl | rfl : k = 0 ∨ k = 1 ∨ k = 2 ∨ k = 3 ∨ k = 4 ∨ k = 5 ∨ k = 6 ∨ k = 7 ∨ k = 8 ∨ k = 9 ∨ k = 10 ∨ k = 11 ∨ k = 12 ∨ k = 13 ∨ k = 14 ∨ k = 15 := by omega
  all_goals kernel_rfl

def CountPost (w : World) (l : List Nat) (e : Ending) (w' : World) : Prop := e = .returned (.agg (ints (cnts l)).toArray) ∧ Only (fun _ => False) w w'
def CountAt (w : World) (H : Nat) (l : List Nat) (k : Nat) (wx : World) : Prop := Is wx (H + 1) 142 (ints (cnts (l.take k))) ∧ Is wx H 142 (List.replicate 16 (.int .i64 0)) ∧ Only (fun _ => False) w wx

set_option maxHeartbeats 2000000 in
theorem count (A : Option Addr) (n c B : Nat) (l : List Nat) (w : World) (h : See w B A (ints l)) (hn : l.length = n) (h288 : n ≤ 288) (hl : Low l) :
    Calls Tryd.prog 92 #[.slice A n c] w (CountPost w l) := by
  have HS := Lib.hid h
  have HL := Lib.hid hl
  have HN := Lib.hid hn
  clear h hl hn
  go_enter Tryd.func92, Tryd.ntmps92
  go_wp2_with fail
  have hst : CountAt w w.heap.size l 0 ((w.alloc (.cells (List.replicate 16 (Value.int .i64 0)).toArray 142)).alloc (.cells (List.replicate 16 (Value.int .i64 0)).toArray 142)) :=
    ⟨Is.new2 w _ 142 _, (Is.new w 142 _).alloc _, ((Only.refl _ w).alloc _).alloc _⟩
  obtain ⟨H, hH⟩ : ∃ H, w.heap.size = H := ⟨_, rfl⟩
  rw [hH] at hst
  have HST := Lib.hid hst
  clear hst
  have HH := Lib.hid hH
  try rw [hH]
  clear hH
  go_loopg [8] n (fun gk i wx => ∃ k : Nat, i = .int .i64 k ∧ k + gk ≤ n ∧ n ≤ k + gk ∧ CountAt w H l k wx)
  case atStart => exact ⟨0, rfl, by omega, by omega, HST.out⟩
  case round =>
    clear HST
    obtain ⟨k, rfl, hk, hk2, hI⟩ := hrel
    by_cases hlt : k < n
    · obtain ⟨b, off, rfl, _, hc⟩ := (HS.out.new hI.2.2) k _ (ints_at l k (by rw [HN.out]; exact hlt))
      have hx := ln_le l k HL.out
      have hmore := cnts_take l k (by rw [HN.out]; exact hlt)
      have hsame := cnts_take0 l k (by rw [HN.out]; exact hlt)
      obtain ⟨x, hx1⟩ : ∃ x, ln l k = x := ⟨_, rfl⟩
      rw [hx1] at hx hc hmore hsame
      clear hx1
      by_cases h0 : 0 < x
      · have c1 := hI.1.cell x (ints_at _ x (by rw [cnts_length]; omega))
        have c2 := hI.1.frozen x
        rw [show ln (cnts (l.take k)) x = cn (l.take k) x from map_at 16 _ x (by omega)] at c1
        have hy := cn_le (l.take k) x
        have hy2 : (l.take k).length ≤ 288 := by rw [List.length_take]; omega
        obtain ⟨y, hy1⟩ : ∃ y, cn (l.take k) x = y := ⟨_, rfl⟩
        rw [hy1] at c1 hy hmore
        have hy3 : y ≤ 288 := by omega
        have HM := Lib.hid (hmore h0)
        have HI := Lib.hid hI
        clear hy1 hmore hsame hI hy hy2
        go_wp2_with fail
        go_roundg (gk - 1)
        case measure => omega
        case rel =>
          refine ⟨k + 1, by go_num, by omega, by omega, ?_, HI.out.2.1.far (p := ⟨H + 1, x, none⟩) (by simp) _, HI.out.2.2.set (p := ⟨H + 1, x, none⟩) (.inr (by have := HH.out; simp; omega)) _⟩
          rw [← HM.out, ← ints_set]
          exact HI.out.1.set x _
      · obtain rfl : x = 0 := by omega
        have HM := Lib.hid (hsame rfl)
        have HI := Lib.hid hI
        clear hmore hsame hI
        go_wp2_with fail
        go_roundg (gk - 1)
        case measure => omega
        case rel =>
          refine ⟨k + 1, by go_num, by omega, by omega, ?_⟩
          unfold CountAt
          rw [HM.out]
          exact HI.out
    · have ht : l.take k = l := List.take_of_length_le (by rw [HN.out]; omega)
      obtain ⟨h1, h2, h3⟩ := hI
      rw [ht] at h1
      have H1 := Lib.hid h1
      have H2 := Lib.hid h2
      have H3 := Lib.hid h3
      have hlen : (ints (cnts l)).length = 16 := by rw [ints_length, cnts_length]
      have HLn := Lib.hid hlen
      clear h1 h2 h3 ht hlen
      go_wp2_with (first
        | ((with_reducible show wpList _ _ _ (Oper.mk _ (Op.load _ _) _ _ _ _ :: _) _ _); refine wpList_load_is rfl 142 (.tmp 3) rfl (H + 1) rfl 142 _ H1.out Tryd.underlying142 (by rw [HLn.out]; exact info142) ?_)
        | ((with_reducible show wpList _ _ _ (Oper.mk _ (Op.store _ _ _) _ _ _ _ :: _) _ _); refine wpList_store_row rfl 142 (.tmp 2) (.tmp 20) rfl H _ rfl rfl 142 _ H2.out (by rw [List.size_toArray, HLn.out]; exact info142) (by rw [List.size_toArray, List.size_toArray, HLn.out]; rfl) (all_oneCell_toArray (ints_one _)) ?_))
      refine bodyPost_ret (results_cell_row rfl _ _ H 142 _ (0, 0) _ rfl (H2.out.row _) Tryd.underlying142 rfl (by rw [List.size_toArray, HLn.out]; exact info142)) rfl ?_
      exact ⟨rfl, H3.out.row (.inr (by have := HH.out; omega)) _⟩

theorem st_small (l : List Nat) (h : l.length ≤ 288) : ∀ k, k ≤ 16 → st l k ≤ 288 * k
  | 0, _ => Nat.le_refl _
  | k + 1, hk => by
    have h1 := st_small l h k (by omega)
    have h2 := cn_le l k
    rw [st]
    omega
theorem fu_small (l : List Nat) (h : l.length ≤ 288) : ∀ k, k ≤ 16 → fu l k ≤ 9437184 * k
  | 0, _ => Nat.le_refl _
  | k + 1, hk => by
    have h1 := fu_small l h k (by omega)
    have h2 := cn_le l k
    have h3 : 2 ^ (15 - k) ≤ 2 ^ 15 := Nat.pow_le_pow_right (by decide) (by omega)
    have h4 : cn l k * 2 ^ (15 - k) ≤ 288 * 2 ^ 15 := Nat.mul_le_mul (by omega) h3
    rw [fu]
    omega

set_option maxHeartbeats 1000000 in
theorem used (l : List Nat) (w : World) (h288 : l.length ≤ 288) :
    Calls Tryd.prog 101 #[.agg (ints (cnts l)).toArray] w fun e w' => e = .returned (.int .i64 (st l 16 : Nat)) ∧ Only (fun _ => False) w w' := by
  obtain ⟨cs, hcs⟩ : ∃ cs, ints (cnts l) = cs := ⟨_, rfl⟩
  have hlen : cs.length = 16 := by rw [← hcs, ints_length, cnts_length]
  have hix : ∀ k : Nat, k < 16 → ∀ W : World, (Instr.index 142 (.agg cs.toArray) (.int .i64 (k : Int))).run Tryd.prog W = .ok (.int .i64 (cn l k : Nat)) W := by
    intro k hk W
    rw [← hcs]
    exact index16 (cn l) k hk W
  have hsm := fun k (hk : k ≤ 16) => st_small l h288 k hk
  have hone : ∀ v ∈ cs, v.oneCell' = true := by rw [← hcs]; exact ints_one _
  rw [hcs]
  have HX := Lib.hid hix
  have HSM := Lib.hid hsm
  have HLn := Lib.hid hlen
  have HON := Lib.hid hone
  clear hcs hix hsm hlen hone
  go_enter Tryd.func101, Tryd.ntmps101
  go_wp2_with (first
    | ((with_reducible show wpList _ _ _ (Oper.mk _ (Op.load _ _) _ _ _ _ :: _) _ _); refine wpList_load_is rfl 142 (.tmp 1) rfl w.heap.size rfl 142 cs (Is.new w 142 cs) Tryd.underlying142 (by rw [HLn.out]; exact info142) ?_))
  have HO : Hid (Only (fun _ => False) w (w.alloc (.cells cs.toArray 142))) := (Only.refl _ w).alloc _
  obtain ⟨wa, hwa⟩ : ∃ wa, w.alloc (.cells cs.toArray 142) = wa := ⟨_, rfl⟩
  rw [hwa] at HO
  rw [hwa]
  clear hwa
  go_loopg [3, 7] 16 (fun gk v i wx => ∃ k : Nat, i = .int .i64 k ∧ v = .int .i64 (st l k : Nat) ∧ k + gk ≤ 16 ∧ 16 ≤ k + gk ∧ wx = wa)
  case atStart => exact ⟨0, rfl, rfl, by omega, by omega, rfl⟩
  case round =>
    obtain ⟨k, rfl, rfl, hk, hk2, rfl⟩ := hrel
    by_cases hlt : k < 16
    · have c1 := HX.out k hlt
      have h1 := HSM.out k (by omega)
      have h2 := cn_le l k
      have h3 : st l (k + 1) = st l k + cn l k := rfl
      obtain ⟨x, hx⟩ : ∃ x, cn l k = x := ⟨_, rfl⟩
      obtain ⟨y, hy⟩ : ∃ y, st l k = y := ⟨_, rfl⟩
      rw [hx] at c1 h2 h3
      rw [hy] at h1 h3 ⊢
      have H3 := Lib.hid h3
      clear hx hy h3
      go_wp2_with fail
      go_roundg (gk - 1)
      case measure => omega
      case rel => exact ⟨k + 1, by go_num, by rw [H3.out]; go_num, by omega, by omega, rfl⟩
    · obtain rfl : k = 16 := by omega
      go_wp2
      go_ret
      exact ⟨rfl, HO.out⟩

set_option maxHeartbeats 1000000 in
theorem howFull (l : List Nat) (w : World) (h288 : l.length ≤ 288) :
    Calls Tryd.prog 102 #[.agg (ints (cnts l)).toArray] w fun e w' => e = .returned (.int .i64 (fu l 16 : Nat)) ∧ Only (fun _ => False) w w' := by
  obtain ⟨cs, hcs⟩ : ∃ cs, ints (cnts l) = cs := ⟨_, rfl⟩
  have hlen : cs.length = 16 := by rw [← hcs, ints_length, cnts_length]
  have hix : ∀ k : Nat, k < 16 → ∀ W : World, (Instr.index 142 (.agg cs.toArray) (.int .i64 (k : Int))).run Tryd.prog W = .ok (.int .i64 (cn l k : Nat)) W := by
    intro k hk W
    rw [← hcs]
    exact index16 (cn l) k hk W
  have hsm := fun k (hk : k ≤ 16) => fu_small l h288 k hk
  have hone : ∀ v ∈ cs, v.oneCell' = true := by rw [← hcs]; exact ints_one _
  rw [hcs]
  have HX := Lib.hid hix
  have HSM := Lib.hid hsm
  have HLn := Lib.hid hlen
  have HON := Lib.hid hone
  clear hcs hix hsm hlen hone
  go_enter Tryd.func102, Tryd.ntmps102
  go_wp2_with (first
    | ((with_reducible show wpList _ _ _ (Oper.mk _ (Op.load _ _) _ _ _ _ :: _) _ _); refine wpList_load_is rfl 142 (.tmp 1) rfl w.heap.size rfl 142 cs (Is.new w 142 cs) Tryd.underlying142 (by rw [HLn.out]; exact info142) ?_))
  have HO : Hid (Only (fun _ => False) w (w.alloc (.cells cs.toArray 142))) := (Only.refl _ w).alloc _
  obtain ⟨wa, hwa⟩ : ∃ wa, w.alloc (.cells cs.toArray 142) = wa := ⟨_, rfl⟩
  rw [hwa] at HO
  rw [hwa]
  clear hwa
  go_loopg [3, 7] 16 (fun gk v i wx => ∃ k : Nat, i = .int .i64 k ∧ v = .int .i64 (fu l k : Nat) ∧ k + gk ≤ 16 ∧ 16 ≤ k + gk ∧ wx = wa)
  case atStart => exact ⟨0, rfl, rfl, by omega, by omega, rfl⟩
  case round =>
    obtain ⟨k, rfl, rfl, hk, hk2, rfl⟩ := hrel
    by_cases hlt : k < 16
    · have c1 := HX.out k hlt
      have h1 := HSM.out k (by omega)
      have h2 := cn_le l k
      have h3 : fu l (k + 1) = fu l k + cn l k * 2 ^ (15 - k) := rfl
      have h4 : 2 ^ (15 - k) ≤ 2 ^ 15 := Nat.pow_le_pow_right (by decide) (by omega)
      have h5 : cn l k * 2 ^ (15 - k) ≤ 288 * 2 ^ 15 := Nat.mul_le_mul (by omega) h4
      obtain ⟨x, hx⟩ : ∃ x, cn l k = x := ⟨_, rfl⟩
      obtain ⟨y, hy⟩ : ∃ y, fu l k = y := ⟨_, rfl⟩
      obtain ⟨q, hq⟩ : ∃ q, 15 - k = q := ⟨_, rfl⟩
      rw [hx] at c1 h2 h3 h5
      rw [hy] at h1 h3 ⊢
      rw [hq] at h3 h5
      obtain ⟨m, hm⟩ : ∃ m, x * 2 ^ q = m := ⟨_, rfl⟩
      rw [hm] at h3 h5
      have e1 : (15 : Int) - (k : Int) = (q : Int) := by omega
      have e2 : wrap64 (q : Int) = q := IntWalk.wrap64_in _ (by omega)
      have e3 : (x : Int) * 2 ^ q = (m : Int) := by rw [← hm]; simp
      have H3 := Lib.hid h3
      clear hx hy h3 h4 hm
      go_wp2_with fail
      go_roundg (gk - 1)
      case measure => omega
      case rel => exact ⟨k + 1, by go_num, by rw [H3.out]; go_num, by omega, by omega, rfl⟩
    · obtain rfl : k = 16 := by omega
      go_wp2
      go_ret
      exact ⟨rfl, HO.out⟩
end Go.Proofs.YtackcgiokkbhdaaDoor
