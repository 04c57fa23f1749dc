/- Layer 7: which row says a number, and what a symbol says, by the document. -/
import Derived.Test.YtackcgiokkbhdaaDoorTTable
import Derived.OwnWalk
namespace Go.Proofs.YtackcgiokkbhdaaDoor
open Go.RowKit

def FindPost (w : World) (s b : Nat) (m : Int) (e : Ending) (w' : World) : Prop := e = .returned (.tuple #[.int .i64 (s : Nat), .int .i64 (b : Nat), .int .i64 m]) ∧ Only (fun _ => False) w w'
theorem at_some {α : Type} (R : List α) (j n : Nat) (hn : R.length = n) (hj : j < n) : ∃ q, R[j]? = some q := ⟨R[j]'(by omega), by simp [hn, hj]⟩

set_option maxHeartbeats 4000000 in
theorem rfind (A : Option Addr) (n c B : Nat) (R : List Sy) (x : Int) (w : World) (i0 : Nat) (r : Sy) (h : See w B A (sys R)) (hn : R.length = n) (h30 : n ≤ 30) (hi : R[i0]? = some r) (hle : (r.f : Int) ≤ x) (hx : x ≤ 100000) (hgt : ∀ (j : Nat) (q : Sy), i0 < j → R[j]? = some q → x < q.f) :
    Calls Tryd.prog 35 #[.slice A n c, .int .i64 x] w (FindPost w r.s r.b (x - r.f)) := by
  obtain ⟨rs, rf, rb⟩ := r
  simp only at hle ⊢
  have hi0 : i0 < n := by
    rcases Nat.lt_or_ge i0 n with h1 | h1
    · exact h1
    · rw [List.getElem?_eq_none (by omega)] at hi; cases hi
  have HS := Lib.hid h
  have HN := Lib.hid hn
  have HI := Lib.hid hi
  have HG := Lib.hid hgt
  clear h hn hi hgt
  go_enter Tryd.func35, Tryd.ntmps35
  go_wp2_with fail
  go_loopg [7, 8] n (fun gk v7 i wx => ∃ (j a : Nat), i = .int .i64 j ∧ v7 = .int .i64 a ∧ j + gk ≤ n ∧ n ≤ j + gk ∧ a < n ∧ Hid (i0 < j → a = i0) ∧ wx = w)
  case atStart => exact ⟨0, 0, rfl, rfl, by omega, by omega, by omega, Lib.hid (fun h => by omega), rfl⟩
  case round =>
    obtain ⟨j, a, rfl, rfl, hg1, hg2, ha, HA, rfl⟩ := hrel
    by_cases hlt : j < n
    · obtain ⟨q, hq⟩ := at_some R j n HN.out hlt
      obtain ⟨b0, off, rfl, _, _, c1, _⟩ := HS.out.sym j q hq
      obtain ⟨qs, qf, qb⟩ := q
      simp only at c1
      have HQ := Lib.hid hq
      clear hq
      by_cases hf : (qf : Int) ≤ x
      · have HA2 : Hid (i0 < j + 1 → j = i0) := Lib.hid (fun h => by
          rcases Nat.lt_or_ge i0 j with h1 | h1
          · have := HG.out j _ h1 HQ.out
            simp only at this
            omega
          · omega)
        go_wp2
        go_roundg (gk - 1)
        case measure => omega
        case rel => exact ⟨j + 1, j, by go_num, rfl, by omega, by omega, by omega, HA2, rfl⟩
      · have HA2 : Hid (i0 < j + 1 → a = i0) := Lib.hid (fun h => by
          rcases Nat.lt_or_ge i0 j with h1 | h1
          · exact HA.out h1
          · obtain rfl : i0 = j := by omega
            have e := HI.out.symm.trans HQ.out
            simp only [Option.some.injEq, Sy.mk.injEq] at e
            omega)
        go_wp2
        go_roundg (gk - 1)
        case measure => omega
        case rel => exact ⟨j + 1, a, by go_num, rfl, by omega, by omega, by omega, HA2, rfl⟩
    · obtain rfl : a = i0 := HA.out (by omega)
      obtain ⟨b0, off, rfl, _, c0, c1, c2⟩ := HS.out.sym a _ HI.out
      simp only at c0 c1 c2
      go_wp2_with fail
      go_quiet (fail)
      go_wp2
      go_ret3
      exact ⟨by simp, (Only.refl _ _).drewN _⟩

def SofPost (w : World) (r : Int) (ok : Bool) (e : Ending) (w' : World) : Prop := e = .returned (.tuple #[.int .i64 r, .bool ok]) ∧ w' = w

set_option maxHeartbeats 4000000 in
theorem rof_yes (A : Option Addr) (n c B : Nat) (R : List Sy) (m : Nat) (w : World) (i0 : Nat) (r : Sy) (h : See w B A (sys R)) (hn : R.length = n) (h30 : n ≤ 30) (hi : R[i0]? = some r) (hb : r.b ≤ 15) (hf : r.f ≤ 100000) (hs : r.s ≤ 1000) (hm : m < 2 ^ r.b) (hne : ∀ (j : Nat) (q : Sy), j < i0 → R[j]? = some q → q.s ≠ r.s) :
    Calls Tryd.prog 79 #[.slice A n c, .int .i64 (r.s : Nat), .int .i64 m] w (SofPost w ((r.f + m : Nat) : Int) true) := by
  obtain ⟨rs, rf, rb⟩ := r
  simp only at hb hf hs hm hne ⊢
  have hi0 : i0 < n := by
    rcases Nat.lt_or_ge i0 n with h1 | h1
    · exact h1
    · rw [List.getElem?_eq_none (by omega)] at hi; cases hi
  obtain ⟨p, hp⟩ : ∃ p, 2 ^ rb = p := ⟨_, rfl⟩
  have hp15 : p ≤ 32768 := by rw [← hp]; exact Nat.pow_le_pow_right (n := 2) (j := 15) (by decide) hb
  rw [hp] at hm
  have HS := Lib.hid h
  have HN := Lib.hid hn
  have HI := Lib.hid hi
  have HE := Lib.hid hne
  have HP := Lib.hid hp
  clear h hn hi hne hp
  go_enter Tryd.func79, Tryd.ntmps79
  go_wp2_with fail
  go_loopg [8] n (fun gk i wx => ∃ (j : Nat), i = .int .i64 j ∧ j + gk ≤ n ∧ n ≤ j + gk ∧ j ≤ i0 ∧ wx = w)
  case atStart => exact ⟨0, rfl, by omega, by omega, by omega, rfl⟩
  case round =>
    obtain ⟨j, rfl, hg1, hg2, hj, rfl⟩ := hrel
    obtain ⟨q, hq⟩ := at_some R j n HN.out (by omega)
    obtain ⟨b0, off, rfl, _, c0, c1, c2⟩ := HS.out.sym j q hq
    by_cases hlt : j < i0
    · have hne := HE.out j q hlt hq
      obtain ⟨qs, qf, qb⟩ := q
      simp only at c0 c1 c2 hne
      clear hq
      have hne2 : ((qs : Int) == (rs : Int)) = false := by simp; omega
      have hne3 : ¬ (qs : Int) = (rs : Int) := by omega
      go_wp2_with fail
      go_roundg (gk - 1)
      case measure => omega
      case rel => exact ⟨j + 1, by go_num, by omega, by omega, by omega, rfl⟩
    · obtain rfl : j = i0 := by omega
      obtain rfl := Option.some.inj (HI.out.symm.trans hq)
      simp only at c0 c1 c2
      clear hq
      go_wp2_with (go_at_call 48; refine (power rb _ (by omega)).mono ?_; rintro e w' ⟨rfl, rfl⟩; rw [HP.out])
      go_ret2
      exact ⟨by simp, rfl⟩

set_option maxHeartbeats 4000000 in
theorem rof_no (A : Option Addr) (n c B : Nat) (R : List Sy) (s m : Int) (w : World) (h : See w B A (sys R)) (hn : R.length = n) (h30 : n ≤ 30) (hb : ∀ (j : Nat) (q : Sy), R[j]? = some q → q.b ≤ 15) (hno : ∀ (j : Nat) (q : Sy), R[j]? = some q → (q.s : Int) ≠ s ∨ m < 0 ∨ (2 ^ q.b : Nat) ≤ m) :
    Calls Tryd.prog 79 #[.slice A n c, .int .i64 s, .int .i64 m] w (SofPost w 0 false) := by
  have HS := Lib.hid h
  have HN := Lib.hid hn
  have HE := Lib.hid hno
  have HB := Lib.hid hb
  clear h hn hno hb
  go_enter Tryd.func79, Tryd.ntmps79
  go_wp2_with fail
  go_loopg [8] n (fun gk i wx => ∃ (j : Nat), i = .int .i64 j ∧ j + gk ≤ n ∧ n ≤ j + gk ∧ wx = w)
  case atStart => exact ⟨0, rfl, by omega, by omega, rfl⟩
  case round =>
    obtain ⟨j, rfl, hg1, hg2, rfl⟩ := hrel
    by_cases hlt : j < n
    · obtain ⟨q, hq⟩ := at_some R j n HN.out hlt
      obtain ⟨b0, off, rfl, _, c0, c1, c2⟩ := HS.out.sym j q hq
      have hno := HE.out j q hq
      have hb := HB.out j q hq
      obtain ⟨qs, qf, qb⟩ := q
      simp only at c0 c1 c2 hno hb
      clear hq
      by_cases hqs : (qs : Int) = s
      · subst hqs
        by_cases hm0 : m < 0
        · clear hno
          have hm1 : ¬ 0 ≤ m := by omega
          go_wp2_with fail
          go_roundg (gk - 1)
          case measure => omega
          case rel => exact ⟨j + 1, by go_num, by omega, by omega, rfl⟩
        · have hm1 : 0 ≤ m := by omega
          obtain ⟨p, hp⟩ : ∃ p, 2 ^ qb = p := ⟨_, rfl⟩
          rw [hp] at hno
          have hm2 : (p : Int) ≤ m := by omega
          have HP := Lib.hid hp
          clear hno hp
          go_wp2_with (go_at_call 48; refine (power qb _ (by omega)).mono ?_; rintro e w' ⟨rfl, rfl⟩; rw [HP.out])
          go_roundg (gk - 1)
          case measure => omega
          case rel => exact ⟨j + 1, by go_num, by omega, by omega, rfl⟩
      · clear hno
        have hne2 : ((qs : Int) == s) = false := by simp [hqs]
        go_wp2_with fail
        go_roundg (gk - 1)
        case measure => omega
        case rel => exact ⟨j + 1, by go_num, by omega, by omega, rfl⟩
    · obtain rfl : j = n := by omega
      go_wp2
      go_ret2
      exact ⟨rfl, rfl⟩
end Go.Proofs.YtackcgiokkbhdaaDoor
