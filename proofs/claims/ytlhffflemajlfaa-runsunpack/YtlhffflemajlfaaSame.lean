/- Layer 10: symbols that say one number so many times, added to a row of symbols, by the program. -/
import Derived.Test.YtlhffflemajlfaaRepeats
namespace Go.Proofs.Ytlhffflemajlfaa
open Go.RowKit

def SamePost (w0 : World) (n : Nat) (p : List Ru) (x t : Nat) (e : Ending) (w' : World) : Prop :=
  ∃ (A' : Option Addr) (q c' : Nat) (l : List Ru), e = .returned (.slice A' q c') ∧ q ≤ n + t ∧ Bag w0 A' q c' (p ++ l) w' ∧ Same x t l
theorem rep_snoc (l : List Ru) (r : Ru) (j : Nat) : l ++ List.replicate j r ++ [r] = l ++ List.replicate (j + 1) r := by rw [List.replicate_succ', List.append_assoc]

set_option maxHeartbeats 4000000 in
theorem same_zero (w0 w : World) (A : Option Addr) (n c t0 : Nat) (p : List Ru) (h : Bag w0 A n c p w) (hn : n ≤ 2000) (ht : t0 ≤ 2000) :
    Calls Try.prog 17 #[.slice A n c, .int .i64 0, .int .i64 t0] w (SamePost w0 n p 0 t0) := by
  have HB := Lib.hid h
  have HPN := Lib.hid h.1
  clear h
  go_enter Try.func17, Try.ntmps17
  go_upto_region 3 with (go_at_call 24; refine (repeats w0 _ A n c t0 0 p 18 false HB.out (by omega) (by omega) (.inr ⟨.inr rfl, rfl⟩)).mono ?_; rintro e w1 ⟨A1, q1, c1, k1, t1, l1, rfl, hq1, hb1, hr1, hl1, ht1⟩; have HB1 := Lib.hid hb1; have HR1 := Lib.hid hr1; have HL1 := Lib.hid hl1; clear hb1 hr1 hl1)
  clear HB
  go_upto_region 6 with (go_at_call 24; refine (repeats w0 _ A1 q1 c1 t1 0 (p ++ l1) 17 false HB1.out (by omega) (by omega) (.inr ⟨.inl rfl, rfl⟩)).mono ?_; rintro e w2 ⟨A2, q2, c2, k2, t2, l2, rfl, hq2, hb2, hr2, hl2, ht2⟩; have HB2 := Lib.hid hb2; have HS := Lib.hid (same_zeros HR1.out HL1.out hr2 hl2); clear hb2 hr2 hl2)
  have HQ : Hid (q2 + t2 ≤ n + t0) := Lib.hid (by
    have h1 := HB2.out.1
    have h2 := HS.out.2.1
    have h3 := HB1.out.1
    simp only [List.length_append, List.length_replicate] at h1 h2 h3
    have h4 := HPN.out
    omega)
  clear HB1 HR1 HL1
  go_wp2_with fail
  go_loopg [0, 34] t2 (fun gk v0 i wx => ∃ (A' : Option Addr) (q c' j : Nat), v0 = .slice A' q c' ∧ i = .int .i64 j ∧ j + gk ≤ t2 ∧ t2 ≤ j + gk ∧ q2 + j = q ∧ Hid (Bag w0 A' q c' (p ++ l1 ++ l2 ++ List.replicate j ⟨0, 0⟩) wx))
  case atStart => exact ⟨A2, q2, c2, 0, rfl, rfl, by omega, by omega, by omega, by rw [List.replicate_zero, List.append_nil]; exact HB2⟩
  case round =>
    clear HB2
    obtain ⟨A', q, c', j, rfl, rfl, hg1, hg2, hq, HB⟩ := hrel
    by_cases hlt : j < t2
    · go_wp2_with (at_builtin
                   refine wpList_append_rs rfl (.tmp 36) (.tmp 39) 24 24 36 rfl Try.underlying24 info36 zero36 A' q c' _ [.int .i64 0, .int .i64 0] (.slice (some ⟨wr.heap.size, 0, none⟩) 1 1) (by rfl) (by rfl) (HB.out.2.1.alloc _) (Src.oneRu wr 0 0 1 36) (by omega) (by omega) ?_
                   intro A4 c4 w4 hrow4 honly4 hlies4
                   have HB4 := Lib.hid (HB.out.more hrow4 honly4 hlies4)
                   clear hrow4 honly4 hlies4)
      go_roundg (gk - 1)
      case measure => omega
      case rel => exact ⟨A4, q + 1, c4, j + 1, rfl, by go_num, by omega, by omega, by omega, by rw [← rep_snoc]; exact HB4⟩
    · obtain rfl : j = t2 := by omega
      go_wp2
      go_ret
      refine ⟨A', q, c', _, rfl, by have := HQ.out; omega, ?_, HS.out⟩
      have := HB.out
      simp only [List.append_assoc] at this ⊢
      exact this

set_option maxHeartbeats 4000000 in
theorem same_other (w0 w : World) (A : Option Addr) (n c t0 x : Nat) (p : List Ru) (h : Bag w0 A n c p w) (hn : n ≤ 2000) (ht : t0 ≤ 2000) (ht1 : 1 ≤ t0) (hx1 : x ≠ 0) (hx : x ≤ 15) :
    Calls Try.prog 17 #[.slice A n c, .int .i64 x, .int .i64 t0] w (SamePost w0 n p x t0) := by
  have HB := Lib.hid h
  have hx2 : ((x : Int) == 0) = false := by simp; omega
  obtain ⟨u, hu⟩ : ∃ u, t0 - 1 = u := ⟨_, rfl⟩
  have eu : (t0 : Int) - 1 = (u : Int) := by omega
  clear h
  go_enter Try.func17, Try.ntmps17
  go_upto_region 5 with (at_builtin
                         refine wpList_append_rs rfl (.tmp 21) (.tmp 24) 24 24 36 rfl Try.underlying24 info36 zero36 A n c _ [.int .i64 x, .int .i64 0] (.slice (some ⟨w.heap.size, 0, none⟩) 1 1) (by rfl) (by rfl) (HB.out.2.1.alloc _) (Src.oneRu w x 0 1 36) (by omega) (by omega) ?_
                         intro A1 c1 w1 hrow1 honly1 hlies1
                         have HB1 := Lib.hid (HB.out.more hrow1 honly1 hlies1)
                         clear hrow1 honly1 hlies1)
  go_upto_region 6 with (go_at_call 24; refine (repeats w0 _ A1 (n + 1) c1 u x (p ++ [⟨x, 0⟩]) 16 true HB1.out (by omega) (by omega) (.inl ⟨rfl, rfl⟩)).mono ?_; rintro e w2 ⟨A2, q2, c2, k2, t2, l2, rfl, hq2, hb2, hr2, hl2, ht2⟩; have HB2 := Lib.hid hb2; have HR2 := Lib.hid hr2; have HL2 := Lib.hid hl2; clear hb2 hr2 hl2)
  have HS : Hid (Same x t0 ([⟨x, 0⟩] ++ l2 ++ List.replicate t2 ⟨x, 0⟩)) := Lib.hid (same_others hx1 hx ht1 (by rw [hu]; exact HR2.out) HL2.out)
  have HQ : Hid (q2 + t2 ≤ n + t0) := Lib.hid (by
    have h1 := HB2.out.1
    have h2 := HS.out.2.1
    have h3 := HB.out.1
    simp only [List.length_append, List.length_replicate, List.length_singleton] at h1 h2
    omega)
  clear HB HB1 HR2 HL2
  go_wp2_with fail
  go_loopg [0, 34] t2 (fun gk v0 i wx => ∃ (A' : Option Addr) (q c' j : Nat), v0 = .slice A' q c' ∧ i = .int .i64 j ∧ j + gk ≤ t2 ∧ t2 ≤ j + gk ∧ q2 + j = q ∧ Hid (Bag w0 A' q c' (p ++ [⟨x, 0⟩] ++ l2 ++ List.replicate j ⟨x, 0⟩) wx))
  case atStart => exact ⟨A2, q2, c2, 0, rfl, rfl, by omega, by omega, by omega, by rw [List.replicate_zero, List.append_nil]; exact HB2⟩
  case round =>
    clear HB2
    obtain ⟨A', q, c', j, rfl, rfl, hg1, hg2, hq, HB⟩ := hrel
    by_cases hlt : j < t2
    · go_wp2_with (at_builtin
                   refine wpList_append_rs rfl (.tmp 36) (.tmp 39) 24 24 36 rfl Try.underlying24 info36 zero36 A' q c' _ [.int .i64 x, .int .i64 0] (.slice (some ⟨wr.heap.size, 0, none⟩) 1 1) (by rfl) (by rfl) (HB.out.2.1.alloc _) (Src.oneRu wr x 0 1 36) (by omega) (by omega) ?_
                   intro A4 c4 w4 hrow4 honly4 hlies4
                   have HB4 := Lib.hid (HB.out.more hrow4 honly4 hlies4)
                   clear hrow4 honly4 hlies4)
      go_roundg (gk - 1)
      case measure => omega
      case rel => exact ⟨A4, q + 1, c4, j + 1, rfl, by go_num, by omega, by omega, by omega, by rw [← rep_snoc]; exact HB4⟩
    · obtain rfl : j = t2 := by omega
      go_wp2
      go_ret
      refine ⟨A', q, c', _, rfl, by have := HQ.out; omega, ?_, HS.out⟩
      have := HB.out
      simp only [List.append_assoc] at this ⊢
      exact this
theorem same (w0 w : World) (A : Option Addr) (n c t0 x : Nat) (p : List Ru) (h : Bag w0 A n c p w) (hn : n ≤ 2000) (ht : t0 ≤ 2000) (ht1 : 1 ≤ t0) (hx : x ≤ 15) :
    Calls Try.prog 17 #[.slice A n c, .int .i64 x, .int .i64 t0] w (SamePost w0 n p x t0) := by
  by_cases h0 : x = 0
  · subst h0
    exact same_zero w0 w A n c t0 p h hn ht
  · exact same_other w0 w A n c t0 x p h hn ht ht1 h0 hx
end Go.Proofs.Ytlhffflemajlfaa
