/- Layer 10: how many numbers from a place on are the one that stands there. -/
import Derived.Test.YtlhffflemajlfaaSmall
namespace Go.Proofs.Ytlhffflemajlfaa
open Go.RowKit

def FromPost (l : List Nat) (a : Nat) (w : World) (e : Ending) (w' : World) : Prop := ∃ t : Nat, e = .returned (.int .i64 t) ∧ SameAt l a t ∧ Only (fun _ => False) w w'
/-- Where looking stands. -/
def FromAt (l : List Nat) (a e : Nat) : Prop := ∀ i, a ≤ i → i < e → l.getD i 0 = l.getD a 0

set_option maxHeartbeats 2000000 in
theorem same_from (A : Option Addr) (n c B a : Nat) (l : List Nat) (w : World) (h : See w B A (ints l)) (hn : l.length = n) (hb : n ≤ 1000000) (ha : a < n) : Calls Try.prog 16 #[.slice A n c, .int .i64 a] w (FromPost l a w) := by
  have HS := Lib.hid h
  have HN := Lib.hid hn
  clear h hn
  go_enter Try.func16, Try.ntmps16
  go_wp2_with fail
  go_loopg [5] n (fun gk i wx => ∃ q : Nat, i = .int .i64 q ∧ q + gk ≤ n + a + 1 ∧ n ≤ q + gk ∧ a < q ∧ q ≤ n ∧ Hid (FromAt l a q) ∧ Hid (Only (fun _ => False) w wx))
  case atStart => exact ⟨a + 1, by go_num, by omega, by omega, by omega, by omega, Lib.hid fun i h1 h2 => by rw [show i = a by omega], Lib.hid (Only.refl _ w)⟩
  case round =>
    obtain ⟨q, rfl, hg1, hg2, hq1, hq2, HF, HO⟩ := hrel
    by_cases hlt : q < n
    · obtain ⟨b, off, rfl, _, hc⟩ := (HS.out.new HO.out) q _ (ints_at l q (by rw [HN.out]; exact hlt))
      obtain ⟨b2, off2, e2, _, hd⟩ := (HS.out.new HO.out) a _ (ints_at l a (by rw [HN.out]; exact ha))
      simp only [Option.some.injEq, Addr.mk.injEq, and_true] at e2
      obtain ⟨rfl, rfl⟩ := e2
      obtain ⟨x, hx⟩ : ∃ x, l.getD q 0 = x := ⟨_, rfl⟩
      obtain ⟨y, hy⟩ : ∃ y, l.getD a 0 = y := ⟨_, rfl⟩
      rw [hx] at hc
      rw [hy] at hd
      have HX := Lib.hid hx
      have HY := Lib.hid hy
      clear hx hy
      have hlt2 : (q : Int) < (n : Int) := by omega
      by_cases hxy : x = y
      · subst hxy
        have HF2 : Hid (FromAt l a (q + 1)) := Lib.hid (fun i h1 h2 => by
          rcases Nat.lt_or_ge i q with h3 | h3
          · exact HF.out i h1 h3
          · rw [show i = q by omega, HX.out, HY.out])
        go_wp2_with fail
        go_quiet (fail)
        go_wp2_with fail
        go_roundg (gk - 1)
        case measure => omega
        case rel => exact ⟨q + 1, by go_num, by omega, by omega, by omega, by omega, HF2, Lib.hid (HO.out.drewN _)⟩
      · have hne : ((x : Int) == (y : Int)) = false := by simp; omega
        have HT : Hid (SameAt l a (q - a)) := Lib.hid ⟨by omega, by rw [HN.out]; omega, fun i h1 h2 => HF.out i h1 (by omega), fun _ => by rw [show a + (q - a) = q by omega, HX.out, HY.out]; exact hxy⟩
        obtain ⟨t, ht⟩ : ∃ t, q - a = t := ⟨_, rfl⟩
        have et : (q : Int) - (a : Int) = (t : Int) := by omega
        rw [ht] at HT
        clear ht
        go_wp2_with fail
        go_quiet (fail)
        go_wp2
        go_ret
        exact ⟨t, rfl, HT.out, HO.out.drewN _⟩
    · obtain rfl : q = n := by omega
      have hlt2 : decide ((q : Int) < (q : Int)) = false := by simp
      have HT : Hid (SameAt l a (q - a)) := Lib.hid ⟨by omega, by rw [HN.out]; omega, fun i h1 h2 => HF.out i h1 (by omega), fun h => by rw [HN.out] at h; omega⟩
      obtain ⟨t, ht⟩ : ∃ t, q - a = t := ⟨_, rfl⟩
      have et : (q : Int) - (a : Int) = (t : Int) := by omega
      rw [ht] at HT
      clear ht
      go_wp2_with fail
      go_quiet (fail)
      go_wp2
      go_ret
      exact ⟨t, rfl, HT.out, HO.out.drewN _⟩
end Go.Proofs.Ytlhffflemajlfaa
