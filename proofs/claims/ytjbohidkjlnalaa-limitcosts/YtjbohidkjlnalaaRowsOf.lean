/- Layer 6: pairs of a row, the rows of packages, leaves among items, in the program. -/
import Derived.Test.YtjbohidkjlnalaaWoven
namespace Go.Proofs.Ytjbohidkjlnalaa
open Go.RowKit

theorem its_sum (R : List (Nat × Bool)) (i : Nat) (h : i < R.length) : (its R)[2 * i]? = some (.int .i64 (ln (R.map Prod.fst) i : Nat)) := by
  have := (its_at R i R[i] (by simp [h])).1
  rw [this]
  simp [ln, h]
theorem prs_map (l : List Nat) : (List.range (l.length / 2)).map (fun i => ln l (2 * i) + ln l (2 * i + 1)) = prs l := by
  apply List.ext_getElem
  · simp [prs_length]
  · intro i h1 h2
    simp at h1
    have := prs_at l i (by omega)
    rw [List.getElem_map, List.getElem_range, ← this]
    rw [prs_length] at h2
    simp [ln, prs_length, h2]

set_option maxHeartbeats 2000000 in
theorem pairsOf (A : Option Addr) (n k B : Nat) (R : List (Nat × Bool)) (w : World) (h : See w B A (its R)) (hn : R.length = n) (hn2 : n ≤ 1000) (hm : ∀ x ∈ R.map Prod.fst, x ≤ 1099511627776) :
    Calls Try.prog 36 #[.slice A n k] w (CountsPost w (prs (R.map Prod.fst))) := by
  obtain ⟨l, hl⟩ : ∃ l, R.map Prod.fst = l := ⟨_, rfl⟩
  have hln : l.length = n := by rw [← hl]; simpa using hn
  have hat : ∀ i, i < n → ∃ b off, A = some ⟨b, off, none⟩ ∧ b < B ∧ w.cell? ⟨b, off + 2 * i, none⟩ = some (.int .i64 (ln l i : Nat)) := fun i hi => by
    have := h (2 * i) _ (its_sum R i (by omega))
    rw [hl] at this
    exact this
  rw [hl] at hm ⊢
  obtain ⟨m, hm2⟩ : ∃ m, n / 2 = m := ⟨_, rfl⟩
  have em : (n : Int) / 2 = (m : Int) := by omega
  have em2 : Int.tdiv (n : Int) 2 = (m : Int) := by rw [Int.tdiv_eq_ediv_of_nonneg (by omega)]; exact em
  have hmk := run_make_row Try.underlying22 info3 (by omega) m (by omega) w
  have HST : Hid (Made 3 w (some ⟨w.heap.size, 0, none⟩) m m (ints (fillTo m (fun i => ln l (2 * i) + ln l (2 * i + 1)) 0)) (w.alloc (.cells (List.replicate m (.int .i64 0)).toArray 3))) := Lib.hid (by
    rw [fillTo_zero, ← ints_zeros]
    exact zeros_made m (by omega))
  have HA := Lib.hid hat
  have mixed := Try.laysSlF20_f38.mixed
  have HM := Lib.hid hm
  have HLN := Lib.hid hln
  clear h hn hat hm hl hln
  obtain ⟨g, hg⟩ : ∃ g, w.heap.size = g := ⟨_, rfl⟩
  go_enter Try.func36, Try.ntmps36
  go_wp2_with fail
  rw [hg] at HST
  try rw [hg]
  clear hmk hg
  go_loopg [11] m (fun gk i wx => ∃ j : Nat, i = .int .i64 j ∧ j + gk ≤ m ∧ m ≤ j + gk ∧ Hid (Made 3 w (some ⟨g, 0, none⟩) m m (ints (fillTo m (fun i => ln l (2 * i) + ln l (2 * i + 1)) j)) wx))
  case atStart => exact ⟨0, rfl, by omega, by omega, HST⟩
  case round =>
    clear HST
    obtain ⟨j, rfl, hg1, hg2, HI⟩ := hrel
    by_cases hlt : j < m
    · obtain ⟨b, off, rfl, _, hc1⟩ := HA.out (2 * j) (by omega)
      obtain ⟨b2, off2, e2, _, hc2⟩ := HA.out (2 * j + 1) (by omega)
      obtain ⟨rfl, rfl⟩ : b = b2 ∧ off = off2 := by simpa using e2
      have hc1 : wr.cell? ⟨b, off + 2 * (2 * j), none⟩ = _ := (World.cell?_of_block (HI.out.2.1.block b (cell_lt hc1) (fun f => f))).trans hc1
      have hc2 : wr.cell? ⟨b, off + 2 * (2 * j + 1), none⟩ = _ := (World.cell?_of_block (HI.out.2.1.block b (cell_lt hc2) (fun f => f))).trans hc2
      have hx := HM.out _ (ln_mem l (2 * j) (by rw [HLN.out]; omega))
      have hy := HM.out _ (ln_mem l (2 * j + 1) (by rw [HLN.out]; omega))
      have hput := fillTo_put m (fun i => ln l (2 * i) + ln l (2 * i + 1)) j
      obtain ⟨x, hx1⟩ : ∃ x, ln l (2 * j) = x := ⟨_, rfl⟩
      obtain ⟨y, hy1⟩ : ∃ y, ln l (2 * j + 1) = y := ⟨_, rfl⟩
      simp only [hx1, hy1] at hput
      rw [hx1] at hc1 hx
      rw [hy1] at hc2 hy
      obtain ⟨p, hp⟩ : ∃ p, 2 * j = p := ⟨_, rfl⟩
      obtain ⟨q, hq⟩ : ∃ q, p + 1 = q := ⟨_, rfl⟩
      obtain ⟨z, hz⟩ : ∃ z, x + y = z := ⟨_, rfl⟩
      rw [hp] at hc1 hc2
      rw [hq] at hc2
      have ep : 2 * (j : Int) = (p : Int) := by omega
      have eq : (p : Int) + 1 = (q : Int) := by omega
      have ez : (x : Int) + (y : Int) = (z : Int) := by omega
      have bp : (p : Int) < (n : Int) := by omega
      have bq : (q : Int) < (n : Int) := by omega
      have rp : IntKind.i64.wrap (p : Int) = (p : Int) := by rw [IntKind.wrap_i64]; omega
      have rq : IntKind.i64.wrap (q : Int) = (q : Int) := by rw [IntKind.wrap_i64]; omega
      have rz : IntKind.i64.wrap (z : Int) = (z : Int) := by rw [IntKind.wrap_i64]; omega
      have o1 : off + p * 2 = off + 2 * p := by omega
      have o2 : off + q * 2 = off + 2 * q := by omega
      rw [← o1] at hc1
      rw [← o2] at hc2
      obtain ⟨c1, c2⟩ := HI.out.at j (by rw [fillTo_length]; exact hlt)
      rw [hz] at hput
      have HP : Hid (∀ nq, Made 3 w (some ⟨g, 0, none⟩) m m (ints (fillTo m (fun i => ln l (2 * i) + ln l (2 * i + 1)) (j + 1))) ((wr.setCell ⟨g, j, none⟩ (.int .i64 (z : Int))).drewN nq)) := Lib.hid fun nq => by
        rw [← hput, ← ints_set]
        exact (HI.out.setAt j _).drewN nq
      clear hx1 hy1 hput HI hz o1 o2 e2 hp hq
      go_wp2_with fail
      go_big_region_o
      have H1 := Lib.hid (HP.out 1)
      clear HP hc1 hc2 c1 c2
      show Exit.inBlock _ _ _ _ (World.drewN _ 1)
      generalize World.drewN _ 1 = w2 at H1 ⊢
      go_wp2_with fail
      go_roundg (gk - 1)
      case measure => omega
      case rel => exact ⟨j + 1, by go_num, by omega, by omega, H1⟩
    · obtain rfl : j = m := by omega
      have h1 := HI.out
      rw [fillTo_all, ← hm2, ← HLN.out, prs_map] at h1
      have hl : (prs l).length = j := by rw [prs_length, HLN.out, hm2]
      rw [HLN.out, hm2] at h1
      have H1 : Hid (CountsPost w (prs l) (.returned (.slice (some ⟨g, 0, none⟩) j j)) wr) := Lib.hid ⟨g, by rw [hl], by rw [hl]; exact h1⟩
      clear h1 HI hl
      go_wp2
      go_ret
      exact H1.out

theorem lvs_succ (R : List (Nat × Bool)) (j : Nat) (x : Nat × Bool) (h : R[j]? = some x) : lvs R (j + 1) = lvs R j + if x.2 then 1 else 0 := by
  unfold lvs
  rw [List.take_add_one, List.countP_append, h]
  simp [List.countP_cons]

set_option maxHeartbeats 2000000 in
theorem leavesAmong (A : Option Addr) (t k B : Nat) (R : List (Nat × Bool)) (w : World) (h : See w B A (its R)) (ht : t ≤ R.length) (hn2 : t ≤ 1000) :
    Calls Try.prog 30 #[.slice A t k] w fun e w' => e = .returned (.int .i64 (lvs R t : Nat)) ∧ Only (fun _ => False) w w' := by
  have HA : Hid (∀ i, i < t → ∃ x : Nat × Bool, R[i]? = some x ∧ ∃ b off, A = some ⟨b, off, none⟩ ∧ w.cell? ⟨b, off + i * 2, none⟩ = some (.int .i64 (x.1 : Nat)) ∧ w.cell? ⟨b, off + i * 2 + 1, none⟩ = some (.bool x.2)) := Lib.hid fun i hi => by
    have hR : R[i]? = some R[i] := by simp
    obtain ⟨h1, h2⟩ := its_at R i _ hR
    obtain ⟨b, off, e1, _, e2⟩ := h _ _ h1
    obtain ⟨b', off', e3, _, e4⟩ := h _ _ h2
    rw [e1] at e3
    obtain ⟨rfl, rfl⟩ : b = b' ∧ off = off' := by simpa using e3
    exact ⟨_, hR, b, off, e1, by rw [Nat.mul_comm]; exact e2, by rw [Nat.mul_comm, Nat.add_assoc]; exact e4⟩
  clear h
  go_enter Try.func30, Try.ntmps30
  go_wp2_with fail
  go_loopg [3, 8] t (fun gk v3 i wx => ∃ j v : Nat, i = .int .i64 j ∧ v3 = .int .i64 v ∧ j + gk ≤ t ∧ t ≤ j + gk ∧ v ≤ j ∧ Hid (lvs R j = v) ∧ Hid (Only (fun _ => False) w wx))
  case atStart => exact ⟨0, 0, rfl, rfl, by omega, by omega, by omega, Lib.hid rfl, Lib.hid (Only.refl _ w)⟩
  case round =>
    obtain ⟨j, v, rfl, rfl, hg1, hg2, hvj, HV, HO⟩ := hrel
    by_cases hlt : j < t
    · obtain ⟨⟨x, f⟩, hR, b, off, rfl, hc1, hc2⟩ := HA.out j hlt
      have hc1 : wr.cell? ⟨b, off + j * 2, none⟩ = _ := (World.cell?_of_block (HO.out.block b (cell_lt hc1) (fun f => f))).trans hc1
      have hc2 : wr.cell? ⟨b, off + j * 2 + 1, none⟩ = _ := (World.cell?_of_block (HO.out.block b (cell_lt hc2) (fun f => f))).trans hc2
      have hs := lvs_succ R j _ hR
      rw [HV.out] at hs
      have HSS := Lib.hid hs
      clear hR hs
      cases f with
      | true =>
        have HS2 : Hid (lvs R (j + 1) = v + 1) := Lib.hid (by rw [HSS.out]; rfl)
        go_wp2_with fail
        go_roundg (gk - 1)
        case measure => omega
        case rel => exact ⟨j + 1, v + 1, by go_num, by go_num, by omega, by omega, by omega, HS2, Lib.hid (HO.out.alloc _)⟩
      | false =>
        have HS2 : Hid (lvs R (j + 1) = v) := Lib.hid (by rw [HSS.out]; rfl)
        go_wp2_with fail
        go_roundg (gk - 1)
        case measure => omega
        case rel => exact ⟨j + 1, v, by go_num, rfl, by omega, by omega, by omega, HS2, Lib.hid (HO.out.alloc _)⟩
    · obtain rfl : j = t := by omega
      go_wp2
      go_ret
      exact ⟨by rw [HV.out]; rfl, HO.out⟩
end Go.Proofs.Ytjbohidkjlnalaa
