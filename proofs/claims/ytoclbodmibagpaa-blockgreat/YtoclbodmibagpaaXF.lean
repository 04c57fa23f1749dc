/- Layer 10, the program: runs of the same number. -/
import Derived.Test.YtoclbodmibagpaaXRepeats
import Derived.Test.YtoclbodmibagpaaXA
/- Layer 10: symbols that say one number so many times, added to a row of symbols, by the program. -/
namespace Go.Proofs.Ytoclbodmibagpaa
open Go.RowKit

def SamePostX (w0 : World) (n : Nat) (p : List Ru) (x t : Nat) (e : Ending) (w' : World) : Prop :=
  ∃ (A' : Option Addr) (q c' : Nat) (l : List Ru), e = .returned (.slice A' q c') ∧ q ≤ n + t ∧ Bag w0 A' q c' (p ++ l) w' ∧ Same x t l
theorem rep_snoc (l : List Ru) (r : Ru) (j : Nat) : l ++ List.replicate j r ++ [r] = l ++ List.replicate (j + 1) r := by rw [List.replicate_succ', List.append_assoc]

set_option maxHeartbeats 4000000 in
theorem same_zero (w0 w : World) (A : Option Addr) (n c t0 : Nat) (p : List Ru) (h : Bag w0 A n c p w) (hn : n ≤ 2000) (ht : t0 ≤ 2000) :
    Calls Try.prog 116 #[.slice A n c, .int .i64 0, .int .i64 t0] w (SamePostX w0 n p 0 t0) := by
  have HB := Lib.hid h
  have HPN := Lib.hid h.1
  clear h
  go_enter Try.func116, Try.ntmps116
  go_upto_region 3 with (go_at_call 145; refine (repeats w0 _ A n c t0 0 p 18 false HB.out (by omega) (by omega) (.inr ⟨.inr rfl, rfl⟩)).mono ?_; rintro e w1 ⟨A1, q1, c1, k1, t1, l1, rfl, hq1, hb1, hr1, hl1, ht1⟩; have HB1 := Lib.hid hb1; have HR1 := Lib.hid hr1; have HL1 := Lib.hid hl1; clear hb1 hr1 hl1)
  clear HB
  go_upto_region 6 with (go_at_call 145; refine (repeats w0 _ A1 q1 c1 t1 0 (p ++ l1) 17 false HB1.out (by omega) (by omega) (.inr ⟨.inl rfl, rfl⟩)).mono ?_; rintro e w2 ⟨A2, q2, c2, k2, t2, l2, rfl, hq2, hb2, hr2, hl2, ht2⟩; have HB2 := Lib.hid hb2; have HS := Lib.hid (same_zeros HR1.out HL1.out hr2 hl2); clear hb2 hr2 hl2)
  have HQ : Hid (q2 + t2 ≤ n + t0) := Lib.hid (by
    have h1 := HB2.out.1
    have h2 := HS.out.2.1
    have h3 := HB1.out.1
    simp only [List.length_append, List.length_replicate] at h1 h2 h3
    have h4 := HPN.out
    omega)
  clear HB1 HR1 HL1
  go_wp2_with fail
  go_loopg [0, 34] t2 (fun gk v0 i wx => ∃ (A' : Option Addr) (q c' j : Nat), v0 = .slice A' q c' ∧ i = .int .i64 j ∧ j + gk ≤ t2 ∧ t2 ≤ j + gk ∧ q2 + j = q ∧ Hid (Bag w0 A' q c' (p ++ l1 ++ l2 ++ List.replicate j ⟨0, 0⟩) wx))
  case atStart => exact ⟨A2, q2, c2, 0, rfl, rfl, by omega, by omega, by omega, by rw [List.replicate_zero, List.append_nil]; exact HB2⟩
  case round =>
    clear HB2
    obtain ⟨A', q, c', j, rfl, rfl, hg1, hg2, hq, HB⟩ := hrel
    by_cases hlt : j < t2
    · go_wp2_with (at_builtin
                   refine wpList_append_rs rfl (.tmp 36) (.tmp 39) 113 113 172 rfl Try.underlying113 info36 zero36 A' q c' _ [.int .i64 0, .int .i64 0] (.slice (some ⟨wr.heap.size, 0, none⟩) 1 1) (by rfl) (by rfl) (HB.out.2.1.alloc _) (Src.oneRu wr 0 0 1 172) (by omega) (by omega) ?_
                   intro A4 c4 w4 hrow4 honly4 hlies4
                   have HB4 := Lib.hid (HB.out.more hrow4 honly4 hlies4)
                   clear hrow4 honly4 hlies4)
      go_roundg (gk - 1)
      case measure => omega
      case rel => exact ⟨A4, q + 1, c4, j + 1, rfl, by go_num, by omega, by omega, by omega, by rw [← rep_snoc]; exact HB4⟩
    · obtain rfl : j = t2 := by omega
      go_wp2
      go_ret
      refine ⟨A', q, c', _, rfl, by have := HQ.out; omega, ?_, HS.out⟩
      have := HB.out
      simp only [List.append_assoc] at this ⊢
      exact this

set_option maxHeartbeats 4000000 in
theorem same_other (w0 w : World) (A : Option Addr) (n c t0 x : Nat) (p : List Ru) (h : Bag w0 A n c p w) (hn : n ≤ 2000) (ht : t0 ≤ 2000) (ht1 : 1 ≤ t0) (hx1 : x ≠ 0) (hx : x ≤ 15) :
    Calls Try.prog 116 #[.slice A n c, .int .i64 x, .int .i64 t0] w (SamePostX w0 n p x t0) := by
  have HB := Lib.hid h
  have hx2 : ((x : Int) == 0) = false := by simp; omega
  obtain ⟨u, hu⟩ : ∃ u, t0 - 1 = u := ⟨_, rfl⟩
  have eu : (t0 : Int) - 1 = (u : Int) := by omega
  clear h
  go_enter Try.func116, Try.ntmps116
  go_upto_region 5 with (at_builtin
                         refine wpList_append_rs rfl (.tmp 21) (.tmp 24) 113 113 172 rfl Try.underlying113 info36 zero36 A n c _ [.int .i64 x, .int .i64 0] (.slice (some ⟨w.heap.size, 0, none⟩) 1 1) (by rfl) (by rfl) (HB.out.2.1.alloc _) (Src.oneRu w x 0 1 172) (by omega) (by omega) ?_
                         intro A1 c1 w1 hrow1 honly1 hlies1
                         have HB1 := Lib.hid (HB.out.more hrow1 honly1 hlies1)
                         clear hrow1 honly1 hlies1)
  go_upto_region 6 with (go_at_call 145; refine (repeats w0 _ A1 (n + 1) c1 u x (p ++ [⟨x, 0⟩]) 16 true HB1.out (by omega) (by omega) (.inl ⟨rfl, rfl⟩)).mono ?_; rintro e w2 ⟨A2, q2, c2, k2, t2, l2, rfl, hq2, hb2, hr2, hl2, ht2⟩; have HB2 := Lib.hid hb2; have HR2 := Lib.hid hr2; have HL2 := Lib.hid hl2; clear hb2 hr2 hl2)
  have HS : Hid (Same x t0 ([⟨x, 0⟩] ++ l2 ++ List.replicate t2 ⟨x, 0⟩)) := Lib.hid (same_others hx1 hx ht1 (by rw [hu]; exact HR2.out) HL2.out)
  have HQ : Hid (q2 + t2 ≤ n + t0) := Lib.hid (by
    have h1 := HB2.out.1
    have h2 := HS.out.2.1
    have h3 := HB.out.1
    simp only [List.length_append, List.length_replicate, List.length_singleton] at h1 h2
    omega)
  clear HB HB1 HR2 HL2
  go_wp2_with fail
  go_loopg [0, 34] t2 (fun gk v0 i wx => ∃ (A' : Option Addr) (q c' j : Nat), v0 = .slice A' q c' ∧ i = .int .i64 j ∧ j + gk ≤ t2 ∧ t2 ≤ j + gk ∧ q2 + j = q ∧ Hid (Bag w0 A' q c' (p ++ [⟨x, 0⟩] ++ l2 ++ List.replicate j ⟨x, 0⟩) wx))
  case atStart => exact ⟨A2, q2, c2, 0, rfl, rfl, by omega, by omega, by omega, by rw [List.replicate_zero, List.append_nil]; exact HB2⟩
  case round =>
    clear HB2
    obtain ⟨A', q, c', j, rfl, rfl, hg1, hg2, hq, HB⟩ := hrel
    by_cases hlt : j < t2
    · go_wp2_with (at_builtin
                   refine wpList_append_rs rfl (.tmp 36) (.tmp 39) 113 113 172 rfl Try.underlying113 info36 zero36 A' q c' _ [.int .i64 x, .int .i64 0] (.slice (some ⟨wr.heap.size, 0, none⟩) 1 1) (by rfl) (by rfl) (HB.out.2.1.alloc _) (Src.oneRu wr x 0 1 172) (by omega) (by omega) ?_
                   intro A4 c4 w4 hrow4 honly4 hlies4
                   have HB4 := Lib.hid (HB.out.more hrow4 honly4 hlies4)
                   clear hrow4 honly4 hlies4)
      go_roundg (gk - 1)
      case measure => omega
      case rel => exact ⟨A4, q + 1, c4, j + 1, rfl, by go_num, by omega, by omega, by omega, by rw [← rep_snoc]; exact HB4⟩
    · obtain rfl : j = t2 := by omega
      go_wp2
      go_ret
      refine ⟨A', q, c', _, rfl, by have := HQ.out; omega, ?_, HS.out⟩
      have := HB.out
      simp only [List.append_assoc] at this ⊢
      exact this
theorem same (w0 w : World) (A : Option Addr) (n c t0 x : Nat) (p : List Ru) (h : Bag w0 A n c p w) (hn : n ≤ 2000) (ht : t0 ≤ 2000) (ht1 : 1 ≤ t0) (hx : x ≤ 15) :
    Calls Try.prog 116 #[.slice A n c, .int .i64 x, .int .i64 t0] w (SamePostX w0 n p x t0) := by
  by_cases h0 : x = 0
  · subst h0
    exact same_zero w0 w A n c t0 p h hn ht
  · exact same_other w0 w A n c t0 x p h hn ht ht1 h0 hx
end Go.Proofs.Ytoclbodmibagpaa

/- Layer 10: how many numbers from a place on are the one that stands there. -/
namespace Go.Proofs.Ytoclbodmibagpaa
open Go.RowKit

def FromPost (l : List Nat) (a : Nat) (w : World) (e : Ending) (w' : World) : Prop := ∃ t : Nat, e = .returned (.int .i64 t) ∧ SameAt l a t ∧ Only (fun _ => False) w w'
/-- Where looking stands. -/
def FromAt (l : List Nat) (a e : Nat) : Prop := ∀ i, a ≤ i → i < e → l.getD i 0 = l.getD a 0

set_option maxHeartbeats 2000000 in
theorem same_from (A : Option Addr) (n c B a : Nat) (l : List Nat) (w : World) (h : See w B A (ints l)) (hn : l.length = n) (hb : n ≤ 1000000) (ha : a < n) : Calls Try.prog 115 #[.slice A n c, .int .i64 a] w (FromPost l a w) := by
  have HS := Lib.hid h
  have HN := Lib.hid hn
  clear h hn
  go_enter Try.func115, Try.ntmps115
  go_wp2_with fail
  go_loopg [5] n (fun gk i wx => ∃ q : Nat, i = .int .i64 q ∧ q + gk ≤ n + a + 1 ∧ n ≤ q + gk ∧ a < q ∧ q ≤ n ∧ Hid (FromAt l a q) ∧ Hid (Only (fun _ => False) w wx))
  case atStart => exact ⟨a + 1, by go_num, by omega, by omega, by omega, by omega, Lib.hid fun i h1 h2 => by rw [show i = a by omega], Lib.hid (Only.refl _ w)⟩
  case round =>
    obtain ⟨q, rfl, hg1, hg2, hq1, hq2, HF, HO⟩ := hrel
    by_cases hlt : q < n
    · obtain ⟨b, off, rfl, _, hc⟩ := (HS.out.new HO.out) q _ (ints_atX l q (by rw [HN.out]; exact hlt))
      obtain ⟨b2, off2, e2, _, hd⟩ := (HS.out.new HO.out) a _ (ints_atX l a (by rw [HN.out]; exact ha))
      simp only [Option.some.injEq, Addr.mk.injEq, and_true] at e2
      obtain ⟨rfl, rfl⟩ := e2
      obtain ⟨x, hx⟩ : ∃ x, l.getD q 0 = x := ⟨_, rfl⟩
      obtain ⟨y, hy⟩ : ∃ y, l.getD a 0 = y := ⟨_, rfl⟩
      rw [hx] at hc
      rw [hy] at hd
      have HX := Lib.hid hx
      have HY := Lib.hid hy
      clear hx hy
      have hlt2 : (q : Int) < (n : Int) := by omega
      by_cases hxy : x = y
      · subst hxy
        have HF2 : Hid (FromAt l a (q + 1)) := Lib.hid (fun i h1 h2 => by
          rcases Nat.lt_or_ge i q with h3 | h3
          · exact HF.out i h1 h3
          · rw [show i = q by omega, HX.out, HY.out])
        go_wp2_with fail
        go_quiet (fail)
        go_wp2_with fail
        go_roundg (gk - 1)
        case measure => omega
        case rel => exact ⟨q + 1, by go_num, by omega, by omega, by omega, by omega, HF2, Lib.hid (HO.out.drewN _)⟩
      · have hne : ((x : Int) == (y : Int)) = false := by simp; omega
        have HT : Hid (SameAt l a (q - a)) := Lib.hid ⟨by omega, by rw [HN.out]; omega, fun i h1 h2 => HF.out i h1 (by omega), fun _ => by rw [show a + (q - a) = q by omega, HX.out, HY.out]; exact hxy⟩
        obtain ⟨t, ht⟩ : ∃ t, q - a = t := ⟨_, rfl⟩
        have et : (q : Int) - (a : Int) = (t : Int) := by omega
        rw [ht] at HT
        clear ht
        go_wp2_with fail
        go_quiet (fail)
        go_wp2
        go_ret
        exact ⟨t, rfl, HT.out, HO.out.drewN _⟩
    · obtain rfl : q = n := by omega
      have hlt2 : decide ((q : Int) < (q : Int)) = false := by simp
      have HT : Hid (SameAt l a (q - a)) := Lib.hid ⟨by omega, by rw [HN.out]; omega, fun i h1 h2 => HF.out i h1 (by omega), fun h => by rw [HN.out] at h; omega⟩
      obtain ⟨t, ht⟩ : ∃ t, q - a = t := ⟨_, rfl⟩
      have et : (q : Int) - (a : Int) = (t : Int) := by omega
      rw [ht] at HT
      clear ht
      go_wp2_with fail
      go_quiet (fail)
      go_wp2
      go_ret
      exact ⟨t, rfl, HT.out, HO.out.drewN _⟩
end Go.Proofs.Ytoclbodmibagpaa

/- Layer 10: whether a row holds a number that may not be (slices.IndexFunc, slices.ContainsFunc). -/
namespace Go.Proofs.Ytoclbodmibagpaa
open Go.RowKit

/-- The j first numbers may be. -/
def Fine (z : List Int) (j : Nat) : Prop := ∀ i, i < j → okN (z.getD i 0)
theorem Fine.more {z : List Int} {j : Nat} (h : Fine z j) (hj : okN (z.getD j 0)) : Fine z (j + 1) := fun i hi => by
  rcases Nat.lt_or_ge i j with h1 | h1
  · exact h i h1
  · rw [show i = j by omega]; exact hj
def FindPostX (z : List Int) (n : Nat) (w : World) (e : Ending) (w' : World) : Prop := ∃ r : Int, e = .returned (.int .i64 r) ∧ w = w' ∧ (Fine z n → r = -1) ∧ (¬ Fine z n → 0 ≤ r)

set_option maxHeartbeats 2000000 in
theorem index (A : Option Addr) (n c B : Nat) (z : List Int) (w : World) (h : See w B A (zints z)) (hn : z.length = n) (hb : n ≤ 1000000) : Calls Try.prog 144 #[.slice A n c, .func (.func 114) #[] #[]] w (FindPostX z n w) := by
  have HS := Lib.hid h
  have HN := Lib.hid hn
  clear h hn
  go_enter Try.func144, Try.ntmps144
  go_wp2_with fail
  go_loopg [8] n (fun gk i wx => ∃ j : Nat, i = .int .i64 j ∧ j + gk ≤ n ∧ n ≤ j + gk ∧ w = wx ∧ Hid (Fine z j))
  case atStart => exact ⟨0, rfl, by omega, by omega, rfl, Lib.hid fun i hi => by omega⟩
  case round =>
    obtain ⟨j, rfl, hg1, hg2, rfl, HF⟩ := hrel
    by_cases hlt : j < n
    · obtain ⟨b, off, rfl, _, hc⟩ := HS.out j _ (zints_at z j (by rw [HN.out]; exact hlt))
      obtain ⟨x, hx⟩ : ∃ x, z.getD j 0 = x := ⟨_, rfl⟩
      rw [hx] at hc
      have HX := Lib.hid hx
      clear hx
      by_cases hok : 0 ≤ x ∧ x ≤ 15
      · have hb : (decide (x < 0) || decide (15 < x)) = false := by simp; omega
        have C15 : Hid (∀ w1, Calls Try.prog 114 #[.int .i64 x] w1 fun e w' => e = .returned (.bool false) ∧ w1 = w') := Lib.hid fun w1 => by have := noNumber x w1; rw [hb] at this; exact this
        clear hb
        have HF2 : Hid (Fine z (j + 1)) := Lib.hid (HF.out.more (by rw [HX.out]; exact hok))
        clear hok
        go_wp2_with (go_at_call 114; refine (C15.out _).mono ?_; rintro e w1 ⟨rfl, rfl⟩)
        go_roundg (gk - 1)
        case measure => omega
        case rel => exact ⟨j + 1, by go_num, by omega, by omega, rfl, HF2⟩
      · have hb : (decide (x < 0) || decide (15 < x)) = true := by simp; omega
        have C15 : Hid (∀ w1, Calls Try.prog 114 #[.int .i64 x] w1 fun e w' => e = .returned (.bool true) ∧ w1 = w') := Lib.hid fun w1 => by have := noNumber x w1; rw [hb] at this; exact this
        have HB : Hid (¬ Fine z n) := Lib.hid fun hf => hok (by have := hf j hlt; rw [HX.out] at this; exact this)
        clear hb hok
        go_wp2_with (go_at_call 114; refine (C15.out _).mono ?_; rintro e w1 ⟨rfl, rfl⟩)
        go_ret
        exact ⟨j, rfl, rfl, fun hf => absurd hf HB.out, fun _ => by omega⟩
    · obtain rfl : j = n := by omega
      go_wp2
      go_ret
      exact ⟨-1, rfl, rfl, fun _ => rfl, fun hf => absurd HF.out hf⟩

theorem contains_no (A : Option Addr) (n c B : Nat) (z : List Int) (w : World) (h : See w B A (zints z)) (hn : z.length = n) (hb : n ≤ 1000000) (hf : Fine z n) : Calls Try.prog 113 #[.slice A n c, .func (.func 114) #[] #[]] w fun e w' => e = .returned (.bool false) ∧ w = w' := by
  have HC := Lib.hid (index A n c B z w h hn hb)
  have HF := Lib.hid hf
  clear h hn hf
  go_enter Try.func113, Try.ntmps113
  go_wp2_with (go_at_call 144; refine HC.out.mono ?_; rintro e w1 ⟨r, rfl, rfl, h1, h2⟩; obtain rfl := h1 HF.out; clear h1 h2)
  go_ret
  exact ⟨rfl, rfl⟩
theorem contains_yes (A : Option Addr) (n c B : Nat) (z : List Int) (w : World) (h : See w B A (zints z)) (hn : z.length = n) (hb : n ≤ 1000000) (hf : ¬ Fine z n) : Calls Try.prog 113 #[.slice A n c, .func (.func 114) #[] #[]] w fun e w' => e = .returned (.bool true) ∧ w = w' := by
  have HC := Lib.hid (index A n c B z w h hn hb)
  have HF := Lib.hid hf
  clear h hn hf
  go_enter Try.func113, Try.ntmps113
  go_wp2_with (go_at_call 144; refine HC.out.mono ?_; rintro e w1 ⟨r, rfl, rfl, h1, h2⟩; have hr := h2 HF.out; clear h1 h2)
  go_ret
  exact ⟨rfl, rfl⟩
end Go.Proofs.Ytoclbodmibagpaa
