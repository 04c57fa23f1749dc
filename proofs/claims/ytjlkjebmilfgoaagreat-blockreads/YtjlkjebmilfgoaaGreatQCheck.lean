/- Layer 6: which counts may be, in the program and in the document. -/
import Derived.Test.YtjlkjebmilfgoaaGreatQB
namespace Go.Proofs.YtjlkjebmilfgoaaGreat
open Go.RowKit


theorem allowed_yes6 (A : Option Addr) (n c B : Nat) (l : List Nat) (w : World) (h : See w B A (ints l)) (hn : l.length = n) (h288 : n ≤ 288) (hl : Low6 l) :
    Calls Tryz.prog 101 #[.slice A n c] w fun e w' => e = .returned (.bool true) ∧ w = w' := by
  have HS := Lib.hid h
  have HL := Lib.hid hl
  have HN := Lib.hid hn
  clear h hl hn
  go_enter Tryz.func101, Tryz.ntmps101
  go_wp2_with fail
  go_loopg [10] n (fun gk i wx => ∃ k : Nat, i = .int .i64 k ∧ k + gk ≤ n ∧ n ≤ k + gk ∧ wx = w)
  case atStart => exact ⟨0, rfl, by omega, by omega, rfl⟩
  case round =>
    obtain ⟨k, rfl, hk, hk2, rfl⟩ := hrel
    by_cases hlt : k < n
    · obtain ⟨b, off, rfl, _, hc⟩ := HS.out k _ (ints_at l k (by rw [HN.out]; exact hlt))
      have hx := ln_le6 HL.out k
      obtain ⟨x, hx1⟩ : ∃ x, ln l k = x := ⟨_, rfl⟩
      rw [hx1] at hx hc
      have d1 : decide ((x : Int) < 0) = false := by simp
      have d2 : decide (1048576 < (x : Int)) = false := by simp; omega
      clear hx1
      go_wp2_with fail
      go_roundg (gk - 1)
      case measure => omega
      case rel => exact ⟨k + 1, by go_num, by omega, by omega, rfl⟩
    · go_wp2
      go_ret
      exact ⟨rfl, rfl⟩

theorem allowed_no6 (A : Option Addr) (n c B : Nat) (z : List Int) (w : World) (h : See w B A (zints z)) (hn : z.length = n) (h300 : n ≤ 300) (hz : ¬ Okay6 z) :
    Calls Tryz.prog 101 #[.slice A n c] w fun e w' => e = .returned (.bool false) ∧ w = w' := by
  have HS := Lib.hid h
  have HN := Lib.hid hn
  have HZ := Lib.hid hz
  clear h hn hz
  by_cases hbig : 288 < n
  · go_enter Tryz.func101, Tryz.ntmps101
    go_wp2
    go_ret
    exact ⟨rfl, rfl⟩
  · go_enter Tryz.func101, Tryz.ntmps101
    go_wp2_with fail
    go_loopg [10] n (fun gk i wx => ∃ k : Nat, i = .int .i64 k ∧ k + gk ≤ n ∧ n ≤ k + gk ∧ wx = w ∧ Hid (∀ j, j < k → 0 ≤ z.getD j 0 ∧ z.getD j 0 ≤ 1048576))
    case atStart => exact ⟨0, rfl, by omega, by omega, rfl, Lib.hid fun j hj => by omega⟩
    case round =>
      obtain ⟨k, rfl, hk, hk2, rfl, HJ⟩ := hrel
      by_cases hlt : k < n
      · obtain ⟨b, off, rfl, _, hc⟩ := HS.out k _ (zints_at z k (by rw [HN.out]; exact hlt))
        obtain ⟨x, hx1⟩ : ∃ x, z.getD k 0 = x := ⟨_, rfl⟩
        rw [hx1] at hc
        have HX := Lib.hid hx1
        clear hx1
        by_cases h1 : x < 0
        · have d1 : decide (x < 0) = true := by simpa using h1
          go_wp2
          go_ret
          exact ⟨rfl, rfl⟩
        · have d1 : decide (x < 0) = false := by simpa using h1
          by_cases h2 : 1048576 < x
          · have d2 : decide (1048576 < x) = true := by simpa using h2
            go_wp2
            go_ret
            exact ⟨rfl, rfl⟩
          · have d2 : decide (1048576 < x) = false := by simpa using h2
            go_wp2_with fail
            go_roundg (gk - 1)
            case measure => omega
            case rel =>
              refine ⟨k + 1, by go_num, by omega, by omega, rfl, Lib.hid fun j hj => ?_⟩
              rcases Nat.lt_or_ge j k with h3 | h3
              · exact HJ.out j h3
              · obtain rfl : j = k := by omega
                rw [HX.out]
                omega
      · exfalso
        refine HZ.out ⟨by rw [HN.out]; omega, fun x hx => ?_⟩
        obtain ⟨j, hj, rfl⟩ := List.getElem_of_mem hx
        have := HJ.out j (by have := HN.out; omega)
        simpa [hj] using this

end Go.Proofs.YtjlkjebmilfgoaaGreat
