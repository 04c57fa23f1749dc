/- The library's stable sort, its smallest parts: ranges exchanged, a row turned. -/
import Derived.Test.YtjbohidkjlnalaaSMath
import Derived.Test.YtjbohidkjlnalaaShelf
import Derived.Test.YtjbohidkjlnalaaChecked
import Derived.Deep.LoopGhost
import Derived.Sort.WalkA
import Derived.Sort.WalkB2
import Derived.Sort.WalkB12
import Derived.Lib.Hide
namespace Go.Proofs.Ytjbohidkjlnalaa
open Go.Shelf Go.RowKit Go.Lib Go.Sort
variable {α : Type} [Inhabited α]

set_option maxHeartbeats 4000000 in
set_option maxRecDepth 100000 in
theorem swapRange (enc : α → Value) (blk off cap a b n : Nat) (d0 d : Array α) (w0 w : World) (fv : Value) (R : Row1 enc w0 blk off d0) (hs : d0.size = d.size) (S : SW enc w0 blk off d w)
    (ha : a + n ≤ d.size) (hb : b + n ≤ d.size) (hsz : d.size < 4611686018427387904) :
    Calls Try.prog 41 #[.slice (some ⟨blk, off, none⟩) d.size cap, .int .i64 a, .int .i64 b, .int .i64 n, fv] w fun e w' => e = .returned (.tuple #[]) ∧ SW enc w0 blk off (swR d a b n) w' := by
  have hcl0 := R.hO.cells
  simp only [Value.cells] at hcl0
  have hst := R.hO.store Try.prog
  have mixed := Try.laysSlF20_f38.mixed
  have HS := Lib.hid S
  have HD := Lib.hid hs
  clear S hs
  go_enter Try.func41, Try.ntmps41
  go_wp2_with fail
  go_loopg [10] n (fun gk i wx => ∃ k : Nat, i = .int .i64 k ∧ k + gk ≤ n ∧ n ≤ k + gk ∧ Hid (SW enc w0 blk off (swR d a b k) wx))
  case atStart => exact ⟨0, rfl, by omega, by omega, HS⟩
  case round =>
    clear HS
    obtain ⟨k, rfl, hk, hk2, HI⟩ := hrel
    by_cases hlt : k < n
    · have hds : (swR d a b k).size = d0.size := by rw [swR_size, HD.out]
      have hds2 : (swR d a b k).size = d.size := by rw [swR_size]
      obtain ⟨iN, hiN⟩ : ∃ q, a + k = q := ⟨_, rfl⟩
      obtain ⟨jN, hjN⟩ : ∃ q, b + k = q := ⟨_, rfl⟩
      have hi1 : iN < (swR d a b k).size := by omega
      have hj1 : jN < (swR d a b k).size := by omega
      have ea : ((a : Int) + (k : Int)) = (iN : Int) := by omega
      have eb : ((b : Int) + (k : Int)) = (jN : Int) := by omega
      have ra : IntKind.i64.wrap (iN : Int) = (iN : Int) := by rw [IntKind.wrap_i64]; omega
      have rb : IntKind.i64.wrap (jN : Int) = (jN : Int) := by rw [IntKind.wrap_i64]; omega
      have ba : (iN : Int) < (d.size : Int) := by omega
      have bb : (jN : Int) < (d.size : Int) := by omega
      have c1 := HI.out.c1 R hds iN hi1
      have c2 := HI.out.c1 R hds jN hj1
      have f1 := HI.out.f1 R hds iN hi1
      have f2 := HI.out.f1 R hds jN hj1
      obtain ⟨x, hx⟩ : ∃ x, (swR d a b k)[iN]! = x := ⟨_, rfl⟩
      obtain ⟨y, hy⟩ : ∃ y, (swR d a b k)[jN]! = y := ⟨_, rfl⟩
      have S3 : Hid (SW enc w0 blk off (swR d a b (k + 1)) ((wr.setCell ⟨blk, off + iN, none⟩ (enc y)).setCell ⟨blk, off + jN, none⟩ (enc x)).drew) := by
        show SW _ _ _ _ (swp _ _ _) _
        rw [← hx, ← hy, hiN, hjN]
        exact HI.out.swapped R iN jN hi1 hj1
      obtain ⟨u, c3⟩ := HI.out.c2 R hds iN jN hi1 hj1 (enc y)
      rw [hx] at c1
      rw [hy] at c2
      clear hx hy hiN hjN HI hi1 hj1 hds hds2
      go_wp2_with fail
      go_big_region_o
      clear c1 c2 c3 f1 f2
      generalize ((wr.setCell ⟨blk, off + iN, none⟩ (enc y)).setCell ⟨blk, off + jN, none⟩ (enc x)).drew = w3 at S3 ⊢
      go_wp2
      go_roundg (gk - 1)
      case measure => omega
      case rel => exact ⟨k + 1, by go_num, by omega, by omega, S3⟩
    · obtain rfl : k = n := by omega
      go_wp2
      go_end0
      exact ⟨rfl, HI.out⟩
end Go.Proofs.Ytjbohidkjlnalaa
