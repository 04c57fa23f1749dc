/- The library's stable sort: a row turned (rotateCmpFunc). -/
import Derived.Test.YtjbohidkjlnalaaSwap
namespace Go.Proofs.Ytjbohidkjlnalaa
open Go.Shelf Go.RowKit Go.Lib Go.Sort
variable {α : Type} [Inhabited α]

/-- Where turning stands: the places ahead of m that are left, and those from m on. -/
def TurnAt (enc : α → Value) (blk off a m b : Nat) (d : Array α) (w0 : World) (i j : Nat) (wx : World) : Prop :=
  ∃ dj : Array α, dj.size = d.size ∧ SW enc w0 blk off dj wx ∧ PermIn a b d dj ∧ ∀ d', Rot dj d' (m - i) m (m + j) → Rot d d' a m b

set_option maxHeartbeats 4000000 in
set_option maxRecDepth 100000 in
theorem rotate (enc : α → Value) (blk off cap a m b : Nat) (d0 d : Array α) (w0 w : World) (fv : Value) (R : Row1 enc w0 blk off d0) (hs : d0.size = d.size) (S : SW enc w0 blk off d w)
    (ham : a < m) (hmb : m < b) (hb : b ≤ d.size) (hsz : d.size < 4611686018427387904) :
    Calls Try.prog 40 #[.slice (some ⟨blk, off, none⟩) d.size cap, .int .i64 a, .int .i64 m, .int .i64 b, fv] w fun e w' => e = .returned (.tuple #[]) ∧ ∃ d', SW enc w0 blk off d' w' ∧ PermIn a b d d' ∧ Rot d d' a m b := by
  have HD := Lib.hid hs
  have HR := Lib.hid R
  have HST : Hid (TurnAt enc blk off a m b d w0 (m - a) (b - m) w) := ⟨d, rfl, S, permIn_refl d a b, fun d' h => by
    have e1 : m - (m - a) = a := by omega
    have e2 : m + (b - m) = b := by omega
    rw [e1, e2] at h
    exact h⟩
  clear S hs R
  obtain ⟨i0, hi0⟩ : ∃ i, m - a = i := ⟨_, rfl⟩
  obtain ⟨j0, hj0⟩ : ∃ j, b - m = j := ⟨_, rfl⟩
  rw [hi0, hj0] at HST
  have e1 : (m : Int) - (a : Int) = (i0 : Int) := by omega
  have e2 : (b : Int) - (m : Int) = (j0 : Int) := by omega
  go_enter Try.func40, Try.ntmps40
  go_wp2_with fail
  go_loopg [10, 11] (i0 + j0) (fun gk vi vj wx => ∃ i j : Nat, vi = .int .i64 i ∧ vj = .int .i64 j ∧ i + j ≤ gk ∧ 0 < i ∧ 0 < j ∧ i ≤ i0 ∧ j ≤ j0 ∧ Hid (TurnAt enc blk off a m b d w0 i j wx))
  case atStart => exact ⟨i0, j0, by first | rfl | go_num, by first | rfl | go_num, by omega, by omega, by omega, by omega, by omega, HST⟩
  case round =>
    clear HST
    obtain ⟨i, j, rfl, rfl, hg, hi, hj, hi2, hj2, HI⟩ := hrel
    obtain ⟨k, hk⟩ : ∃ k, m - i = k := ⟨_, rfl⟩
    have e3 : (m : Int) - (i : Int) = (k : Int) := by omega
    by_cases hne : i = j
    · subst hne
      go_wp2_with fail
      obtain ⟨dj, hdj, S, hp, hr⟩ := HI.out
      have hc := swapRange enc blk off cap k m i d0 dj w0 wr fv HR.out (by rw [hdj]; exact HD.out) S (by omega) (by omega) (by omega)
      rw [hdj] at hc
      have hl := hr _ (Rot.last dj (by omega) (by omega))
      rw [hk] at hl
      have HL := Lib.hid hl
      have HP := Lib.hid (permIn_trans _ _ _ a b hp (swR_perm dj k m i a b (by omega) (by omega) (by omega) (by omega) (by omega)))
      have HC := Lib.hid hc
      clear hc hl hr hp S HI hdj
      go_wp2_with fail
      refine HC.out.mono ?_
      rintro e w1 ⟨rfl, h1⟩
      have H1 := Lib.hid h1
      clear h1 HC
      go_wp2
      go_end0
      exact ⟨rfl, _, H1.out, HP.out, HL.out⟩
    · have hne2 : ¬ (i : Int) = (j : Int) := by omega
      by_cases hgt : j < i
      · obtain ⟨dj, hdj, S, hp, hr⟩ := HI.out
        have hc := swapRange enc blk off cap k m j d0 dj w0 wr fv HR.out (by rw [hdj]; exact HD.out) S (by omega) (by omega) (by omega)
        rw [hdj] at hc
        have HN : Hid (∀ wx, SW enc w0 blk off (swR dj k m j) wx → TurnAt enc blk off a m b d w0 (i - j) j wx) := Lib.hid fun wx hx => ⟨_, by rw [swR_size]; exact hdj, hx, permIn_trans _ _ _ a b hp (swR_perm dj k m j a b (by omega) (by omega) (by omega) (by omega) (by omega)), fun d' hd' => by
          refine hr d' (Rot.left (by omega) (by omega) hgt (by omega) ?_)
          have e4 : m - (i - j) = m - i + j := by omega
          rw [e4] at hd'
          rw [hk] at hd' ⊢
          exact hd'⟩
        have HC := Lib.hid hc
        clear hc hr hp S HI hdj
        obtain ⟨i', hi'⟩ : ∃ i', i - j = i' := ⟨_, rfl⟩
        have e5 : (i : Int) - (j : Int) = (i' : Int) := by omega
        rw [hi'] at HN
        go_wp2_with fail
        refine HC.out.mono ?_
        rintro e w1 ⟨rfl, h1⟩
        have H1 := Lib.hid (HN.out _ h1)
        clear h1 HC HN
        go_wp2
        go_roundg (i' + j)
        case measure => omega
        case rel => exact ⟨i', j, by first | rfl | go_num, rfl, Nat.le_refl _, by omega, by omega, by omega, by omega, H1⟩
      · obtain ⟨dj, hdj, S, hp, hr⟩ := HI.out
        obtain ⟨j', hj'⟩ : ∃ j', j - i = j' := ⟨_, rfl⟩
        obtain ⟨q, hq⟩ : ∃ q, m + j = q := ⟨_, rfl⟩
        obtain ⟨q', hq'⟩ : ∃ q', m + j - i = q' := ⟨_, rfl⟩
        have e5 : (j : Int) - (i : Int) = (j' : Int) := by omega
        have e6 : (m : Int) + (j : Int) = (q : Int) := by omega
        have e7 : (q : Int) - (i : Int) = (q' : Int) := by omega
        have hc := swapRange enc blk off cap k q' i d0 dj w0 wr fv HR.out (by rw [hdj]; exact HD.out) S (by omega) (by omega) (by omega)
        rw [hdj] at hc
        have HN : Hid (∀ wx, SW enc w0 blk off (swR dj k q' i) wx → TurnAt enc blk off a m b d w0 i j' wx) := Lib.hid fun wx hx => ⟨_, by rw [swR_size]; exact hdj, hx, permIn_trans _ _ _ a b hp (swR_perm dj k q' i a b (by omega) (by omega) (by omega) (by omega) (by omega)), fun d' hd' => by
          refine hr d' (Rot.right (by omega) (by omega) (by omega) (by omega) ?_)
          rw [hq', hj']
          rw [hk] at hd' ⊢
          exact hd'⟩
        have HC := Lib.hid hc
        clear hc hr hp S HI hdj
        go_wp2_with fail
        refine HC.out.mono ?_
        rintro e w1 ⟨rfl, h1⟩
        have H1 := Lib.hid (HN.out _ h1)
        clear h1 HC HN
        go_wp2
        go_roundg (i + j')
        case measure => omega
        case rel => exact ⟨i, j', rfl, by first | rfl | go_num, Nat.le_refl _, by omega, by omega, by omega, by omega, H1⟩
end Go.Proofs.Ytjbohidkjlnalaa
