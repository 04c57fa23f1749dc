/- The document's reader of layer 1: Bits, Align, Bytes on a list of bits. -/
import Derived.Test.YthocfdkheikeoaaRefText
import Derived.BigQuiet
import Derived.Deep.QuietTactic
namespace Go.Proofs.Ythocfdkheikeoaa
open Go.RowKit

/-- The document's reader: bits l, at a, whether it has failed. -/
def RR (w : World) (b : Nat) (A : Option Addr) (n c a : Nat) (f : Bool) (l : List UInt8) : Prop := Is w b 30 [.slice A n c, .int .i64 a, .bool f] ∧ Row 5 w A n c l

def RRPost (b : Nat) (A : Option Addr) (n c a : Nat) (f : Bool) (l : List UInt8) (w : World) (v : Value) (e : Ending) (w' : World) : Prop :=
  e = .returned v ∧ RR w' b A n c a f l ∧ Only (· = b) w w'

theorem RR.set {w : World} {b : Nat} {A : Option Addr} {n c a : Nat} {f : Bool} {l : List UInt8} (h : RR w b A n c a f l) (k i : Nat) (u : Value) (a' : Nat) (f' : Bool) (hcs : [Value.slice A n c, .int .i64 a, .bool f].set i u = [.slice A n c, .int .i64 a', .bool f']) :
    RR ((w.drewN k).setCell ⟨b, i, none⟩ u) b A n c a' f' l := by
  refine ⟨?_, (h.2.drewN k).only (Only.one (w.drewN k) b i u) (fun j hj e => h.2.ne h.1 (by decide) (e ▸ hj))⟩
  rw [← hcs]
  exact (h.1.drewN k).set i u

theorem ralignR (b : Nat) (A : Option Addr) (n c a : Nat) (f : Bool) (l : List UInt8) (w : World) (h : RR w b A n c a f l) (ha : a ≤ 1073741824) :
    Calls Try.prog 13 #[.pointer (some ⟨b, 0, none⟩)] w (RRPost b A n c (if f then a else (a + 7) / 8 * 8) f l w (.tuple #[])) := by
  have c1 := h.1.cell 1 rfl
  have c2 := h.1.cell 2 rfl
  have f1 := h.1.frozen 1
  have b1 : (a : Int) ≤ 1073741824 := by omega
  cases f
  · have done : RRPost b A n c ((a + 7) / 8 * 8) false l w (.tuple #[]) (.returned (.tuple #[])) (w.setCell ⟨b, 1, none⟩ (.int .i64 (((a : Int) + 7) / 8 * 8))) := by
      refine ⟨rfl, ?_, Only.one w b 1 _⟩
      exact h.set 0 1 _ _ _ (by simp)
    have Hd := Lib.hid done
    clear h done
    rw [show (if false = true then a else (a + 7) / 8 * 8) = (a + 7) / 8 * 8 from rfl]
    go_enter Try.func13, Try.ntmps13
    go_wp2
    go_end0
    exact Hd.out
  · have done : RRPost b A n c a true l w (.tuple #[]) (.returned (.tuple #[])) w := ⟨rfl, h, Only.refl _ w⟩
    have Hd := Lib.hid done
    clear h done
    rw [if_pos rfl]
    go_enter Try.func13, Try.ntmps13
    go_wp2
    go_end0
    exact Hd.out

set_option maxHeartbeats 2000000 in
theorem rbits_bad (b : Nat) (A : Option Addr) (n c a : Nat) (f : Bool) (l : List UInt8) (m : Int) (w : World) (h : RR w b A n c a f l) (hn : n ≤ 1073741824) (ha : a ≤ n) (hm : f = true ∨ m < 0 ∨ 32 < m ∨ ((n - a : Nat) : Int) < m) :
    Calls Try.prog 11 #[.pointer (some ⟨b, 0, none⟩), .int .i64 m] w (RRPost b A n c a true l w (.int .u32 0)) := by
  have c0 := h.1.cell 0 rfl
  have c1 := h.1.cell 1 rfl
  have c2 := h.1.cell 2 rfl
  have f2 := h.1.frozen 2
  have hw : IntKind.i64.wrap ((n : Int) - a) = (n : Int) - a := IntWalk.i64_in _ (by omega)
  have done : ∀ k, RRPost b A n c a true l w (.int .u32 0) (.returned (.int .u32 0)) ((w.drewN k).setCell ⟨b, 2, none⟩ (.bool true)) := fun k =>
    ⟨rfl, h.set k 2 _ _ _ rfl, Only.oneN w k b 2 _⟩
  have Hd := Lib.hid done
  clear h done
  cases f
  · by_cases h1 : m < 0
    · have d1 : decide (m < 0) = true := by simpa using h1
      clear hm
      go_enter Try.func11, Try.ntmps11
      go_wp2
      go_quiet (fail)
      go_wp2
      go_ret
      exact Hd.out _
    · have d1 : decide (m < 0) = false := by simpa using h1
      by_cases h2 : 32 < m
      · have d2 : decide (32 < m) = true := by simpa using h2
        clear hm
        go_enter Try.func11, Try.ntmps11
        go_wp2
        go_quiet (fail)
        go_wp2
        go_ret
        exact Hd.out _
      · have d2 : decide (32 < m) = false := by simpa using h2
        have d3 : decide ((n : Int) - a < m) = true := by simp at hm; simp; omega
        clear hm
        go_enter Try.func11, Try.ntmps11
        go_wp2
        go_quiet (fail)
        go_wp2
        go_ret
        exact Hd.out _
  · clear hm
    go_enter Try.func11, Try.ntmps11
    go_wp2
    go_quiet (fail)
    go_wp2
    go_ret
    exact Hd.out _

set_option maxHeartbeats 2000000 in
theorem rbits_ok (b : Nat) (A : Option Addr) (n c a : Nat) (l : List UInt8) (m : Nat) (w : World) (h : RR w b A n c a false l) (hb : Bits l) (hn : n ≤ 1073741824) (ha : a + m ≤ n) (hm : m ≤ 32) :
    Calls Try.prog 11 #[.pointer (some ⟨b, 0, none⟩), .int .i64 m] w (RRPost b A n c (a + m) false l w (.int .u32 (le2 ((l.drop a).take m) : Nat))) := by
  have c0 := h.1.cell 0 rfl
  have c1 := h.1.cell 1 rfl
  have c2 := h.1.cell 2 rfl
  have f1 := h.1.frozen 1
  have hw : IntKind.i64.wrap ((n : Int) - a) = (n : Int) - a := IntWalk.i64_in _ (by omega)
  have d1 : decide ((m : Int) < 0) = false := by simp
  have d2 : decide (32 < (m : Int)) = false := by simp; omega
  have d3 : decide ((n : Int) - a < m) = false := by simp; omega
  have HR := Lib.hid h
  have HB := Lib.hid hb
  have b1 : (a : Int) ≤ 1073741824 := by omega
  clear h hb
  go_enter Try.func11, Try.ntmps11
  go_wp2
  go_quiet (fail)
  go_wp2
  clear hw d1 d2 d3 c2
  go_loopg [5, 6] m (fun gk v i wx => ∃ (j k : Nat), i = .int .i64 ((j : Int) - 1) ∧ v = .int .u64 (le2 ((l.drop (a + j)).take (m - j)) : Nat) ∧ j ≤ gk ∧ j ≤ m ∧ wx = w.drewN k)
  case atStart => exact ⟨m, _, rfl, by simp [le2], by omega, by omega, rfl⟩
  case round =>
    obtain ⟨j, k, rfl, rfl, hj, hj2, rfl⟩ := hrel
    obtain ⟨y, hy⟩ : ∃ y, le2 ((l.drop (a + j)).take (m - j)) = y := ⟨_, rfl⟩
    have hy2 : y < 4294967296 := by
      rw [← hy]
      refine Nat.lt_of_lt_of_le (le2_lt _ (bits_take (bits_drop HB.out _) _)) ?_
      exact Nat.pow_le_pow_right (n := 2) (j := 32) (by decide) (Nat.le_trans (List.length_take_le _ _) (by omega))
    by_cases hm0 : 0 < j
    · obtain ⟨p, rfl⟩ : ∃ p, j = p + 1 := ⟨j - 1, by omega⟩
      have hstep := le2_step l (a + p) (m - (p + 1))
      rw [show a + p + 1 = a + (p + 1) from by omega, hy, show m - (p + 1) + 1 = m - p from by omega] at hstep
      rw [hy]
      obtain ⟨g, hA, hc, _⟩ := HR.out.2.cell (i := a + p) (by omega)
      subst hA
      obtain ⟨z, hz⟩ : ∃ z, (l[a + p]?.getD 0).toNat = z := ⟨_, rfl⟩
      have hz2 : z < 256 := by rw [← hz]; exact UInt8.toNat_lt _
      rw [hz] at hc hstep
      have HST := Lib.hid hstep
      clear hy hstep hz
      rw [show ((p + 1 : Nat) : Int) - 1 = p from by omega]
      have g1 : (0 : Int) ≤ (a : Int) + p := by omega
      have g2 : (a : Int) + p < n := by omega
      have g4 : IntKind.i64.wrap ((a : Int) + p) = (a : Int) + p := IntWalk.i64_in _ (by omega)
      have g3 : ((a : Int) + p).toNat = a + p := by omega
      have g5 : IntKind.u64.wrap (2 * (y : Int)) = 2 * (y : Int) := IntWalk.u64_in _ (by omega)
      have g6 : IntKind.u64.wrap (2 * (y : Int) + z) = 2 * (y : Int) + z := IntWalk.u64_in _ (by omega)
      have g7 : IntKind.u64.wrap (z : Int) = z := IntWalk.u64_in _ (by omega)
      go_wp2
      go_quiet (fail)
      go_wp2
      go_roundg p
      case measure => omega
      case rel =>
        refine ⟨p, _, by go_num, ?_, by omega, by omega, rfl⟩
        rw [HST.out]
        go_num
    · obtain rfl : j = 0 := by omega
      rw [Nat.add_zero, Nat.sub_zero] at hy
      rw [Nat.add_zero, Nat.sub_zero, hy]
      have done : ∀ k, RRPost b A n c (a + m) false l w (.int .u32 (y : Int)) (.returned (.int .u32 (y : Int))) ((w.drewN k).setCell ⟨b, 1, none⟩ (.int .i64 ((a : Int) + m))) := fun k =>
        ⟨rfl, HR.out.set k 1 _ _ _ (by simp), Only.oneN w k b 1 _⟩
      have Hd := Lib.hid done
      have HY := Lib.hid hy
      clear hy done
      go_wp2
      go_ret
      rw [HY.out]
      exact Hd.out _
end Go.Proofs.Ythocfdkheikeoaa
