/- Layer 6: rows merged, which limits may be, what packages cost at least, in the document. -/
import Derived.Test.YtjbohidkjlnalaaRefSome
namespace Go.Proofs.Ytjbohidkjlnalaa
open Go.RowKit

theorem mrg_left (a b : List Nat) (i p : Nat) (hi : i < a.length) (h : p < b.length → ln a i ≤ ln b p) : mrg (a.drop i) (b.drop p) = ln a i :: mrg (a.drop (i + 1)) (b.drop p) := by
  have := congrArg (List.map Prod.fst) (mrgF_left a b i p hi h)
  rw [List.map_cons, mrgF_fst, mrgF_fst] at this
  exact this
theorem mrg_right (a b : List Nat) (i p : Nat) (hp : p < b.length) (h : i < a.length → ln b p < ln a i) : mrg (a.drop i) (b.drop p) = ln b p :: mrg (a.drop i) (b.drop (p + 1)) := by
  have := congrArg (List.map Prod.fst) (mrgF_right a b i p hp h)
  rw [List.map_cons, mrgF_fst, mrgF_fst] at this
  exact this

def MergedPost (w : World) (l : List Nat) (e : Ending) (w' : World) : Prop := ∃ A cap, e = .returned (.slice A l.length cap) ∧ Made 3 w A l.length cap (ints l) w'
def MergeAt (w : World) (a b : List Nat) (A : Option Addr) (m cap i p : Nat) (wx : World) : Prop := ∃ l, l.length = m ∧ i + p = m ∧ l ++ mrg (a.drop i) (b.drop p) = mrg a b ∧ Made 3 w A m cap (ints l) wx
theorem MergeAt.step {w wx : World} {a b : List Nat} {A : Option Addr} {m cap i p i' p' x : Nat} (h : MergeAt w a b A m cap i p wx) (hm : mrg (a.drop i) (b.drop p) = x :: mrg (a.drop i') (b.drop p')) (hi : i' + p' = i + p + 1) (nq : Nat) :
    ∃ l, Row 3 ((wx.drewN nq).alloc (.cells #[.int .i64 (x : Nat)] 3)) A m cap l ∧ ∀ A9 c9 w9, Row 3 w9 A9 (m + 1) c9 (l ++ [.int .i64 (x : Nat)]) → Only (Lies A) ((wx.drewN nq).alloc (.cells #[.int .i64 (x : Nat)] 3)) w9 → (A9 = A ∨ A9 = some ⟨((wx.drewN nq).alloc (.cells #[.int .i64 (x : Nat)] 3)).heap.size, 0, none⟩) → MergeAt w a b A9 (m + 1) c9 i' p' w9 := by
  obtain ⟨l, h1, h2, h3, h4⟩ := h
  refine ⟨ints l, (h4.1.drewN nq).alloc _, fun A9 c9 w9 e1 e2 e3 => ⟨l ++ [x], by simp [h1], by omega, by rw [List.append_assoc, ← h3, hm]; rfl, ?_⟩⟩
  have := (h4.drewN nq).append e1 e2 e3
  rw [← ints_snoc] at this
  exact this
theorem MergeAt.new {w wx : World} {a b : List Nat} {A : Option Addr} {m cap i p : Nat} (h : MergeAt w a b A m cap i p wx) : Only (fun _ => False) w wx := by obtain ⟨_, _, _, _, h4⟩ := h; exact h4.2.1

set_option maxHeartbeats 8000000 in
theorem merged (A Ab : Option Addr) (n k m kb B Bb : Nat) (a b : List Nat) (w : World) (h : See w B A (ints a)) (hb : See w Bb Ab (ints b)) (hn : a.length = n) (hm : b.length = m) (hn2 : n ≤ 1000) (hm2 : m ≤ 1000) :
    Calls Try.prog 24 #[.slice A n k, .slice Ab m kb] w (MergedPost w (mrg a b)) := by
  have HS := Lib.hid h
  have HSb := Lib.hid hb
  have HN := Lib.hid hn
  have HM := Lib.hid hm
  have HST : Hid (MergeAt w a b none 0 0 0 0 w) := Lib.hid ⟨[], rfl, rfl, rfl, Row.nil 3 w, Only.refl _ w, by rintro j ⟨ad, e, _⟩; cases e⟩
  clear h hb hn hm
  go_enter Try.func24, Try.ntmps24
  go_wp2_with fail
  go_loopg [5, 6, 7] (n + m) (fun gk v5 v6 v7 wx => ∃ (i p q cap : Nat) (Ao : Option Addr), v5 = .slice Ao q cap ∧ v6 = .int .i64 i ∧ v7 = .int .i64 p ∧ i ≤ n ∧ p ≤ m ∧ i + p + gk = n + m ∧ q ≤ 2000 ∧ i + p = q ∧ Hid (MergeAt w a b Ao q cap i p wx))
  case atStart => exact ⟨0, 0, 0, 0, none, rfl, rfl, rfl, by omega, by omega, by omega, by omega, by omega, HST⟩
  case round =>
    clear HST
    obtain ⟨i, p, q, cap, Ao, rfl, rfl, rfl, hi, hp, hg, hq, hipq, HI⟩ := hrel
    by_cases hin : i < n
    · obtain ⟨ba, oa, rfl, _, hca⟩ := (HS.out.new HI.out.new) i _ (ints_at a i (by rw [HN.out]; exact hin))
      obtain ⟨x, hx⟩ : ∃ x, ln a i = x := ⟨_, rfl⟩
      rw [hx] at hca
      have HX := Lib.hid hx
      have hca : ∀ nq, (wr.drewN nq).cell? ⟨ba, oa + i, none⟩ = some (.int .i64 (x : Int)) := fun _ => hca
      have din : decide ((i : Int) < (n : Int)) = true := decide_eq_true (by omega)
      clear hx
      by_cases hpm : p < m
      · obtain ⟨bb, ob, rfl, _, hcb⟩ := (HSb.out.new HI.out.new) p _ (ints_at b p (by rw [HM.out]; exact hpm))
        obtain ⟨y, hy⟩ : ∃ y, ln b p = y := ⟨_, rfl⟩
        rw [hy] at hcb
        have HY := Lib.hid hy
        have hcb : ∀ nq, (wr.drewN nq).cell? ⟨bb, ob + p, none⟩ = some (.int .i64 (y : Int)) := fun _ => hcb
        have npm : ¬ (p : Int) = (m : Int) := by omega
        have dpm : ((p : Int) == (m : Int)) = false := by simpa using npm
        clear hy
        by_cases hxy : x ≤ y
        · have dxy : decide ((x : Int) ≤ (y : Int)) = true := decide_eq_true (by omega)
          have HZ := Lib.hid fun nq => HI.out.step (nq := nq) (x := x) (i' := i + 1) (p' := p) (by have := mrg_left a b i p (by rw [HN.out]; exact hin) (fun _ => by rw [HX.out, HY.out]; exact hxy); rw [HX.out] at this; exact this) (by omega)
          clear HI
          go_wp2_with fail
          go_quiet (fail)
          have ca := hca nq
          obtain ⟨l, hl1, hl2⟩ := HZ.out nq
          have HL1 := Lib.hid hl1
          have HL2 := Lib.hid hl2
          clear hca hcb HZ hl1 hl2
          generalize wr.drewN nq = w3 at ca HL1 HL2 ⊢
          go_upto_region 6 with fail
          go_wp2_with (at_builtin
                       refine wpList_append_row rfl (.tmp 39) (.tmp 44) 22 22 3 rfl Try.underlying22 info3 Ao q cap 1 l [.int .i64 (x : Int)] (.slice (some ⟨w3.heap.size, 0, none⟩) 1 1) rfl rfl HL1.out rfl (Src.oneInt Try.underlying22 w3 .i64 (x : Int) 1 3) (by omega) (by omega) ?_
                       intro A9 c9 w9 hrow9 honly9 hlies9
                       have H9 := Lib.hid (HL2.out _ _ _ hrow9 honly9 hlies9)
                       clear hrow9 honly9 hlies9)
          go_roundg (gk - 1)
          case measure => omega
          case rel => exact ⟨i + 1, p, q + 1, c9, A9, rfl, by go_num, rfl, by omega, by omega, by omega, by omega, by omega, H9⟩
        · have dxy : decide ((x : Int) ≤ (y : Int)) = false := decide_eq_false (by omega)
          have HZ := Lib.hid fun nq => HI.out.step (nq := nq) (x := y) (i' := i) (p' := p + 1) (by have := mrg_right a b i p (by rw [HM.out]; exact hpm) (fun _ => by rw [HX.out, HY.out]; omega); rw [HY.out] at this; exact this) (by omega)
          clear HI
          go_wp2_with fail
          go_quiet (fail)
          have cb := hcb nq
          obtain ⟨l, hl1, hl2⟩ := HZ.out nq
          have HL1 := Lib.hid hl1
          have HL2 := Lib.hid hl2
          clear hca hcb HZ hl1 hl2
          generalize wr.drewN nq = w3 at cb HL1 HL2 ⊢
          go_upto_region 8 with fail
          go_wp2_with (at_builtin
                       refine wpList_append_row rfl (.tmp 48) (.tmp 53) 22 22 3 rfl Try.underlying22 info3 Ao q cap 1 l [.int .i64 (y : Int)] (.slice (some ⟨w3.heap.size, 0, none⟩) 1 1) rfl rfl HL1.out rfl (Src.oneInt Try.underlying22 w3 .i64 (y : Int) 1 3) (by omega) (by omega) ?_
                       intro A9 c9 w9 hrow9 honly9 hlies9
                       have H9 := Lib.hid (HL2.out _ _ _ hrow9 honly9 hlies9)
                       clear hrow9 honly9 hlies9)
          go_roundg (gk - 1)
          case measure => omega
          case rel => exact ⟨i, p + 1, q + 1, c9, A9, rfl, rfl, by go_num, by omega, by omega, by omega, by omega, by omega, H9⟩
      · obtain rfl : p = m := by omega
        have HZ := Lib.hid fun nq => HI.out.step (nq := nq) (x := x) (i' := i + 1) (p' := p) (by have := mrg_left a b i p (by rw [HN.out]; exact hin) (fun h => by rw [HM.out] at h; omega); rw [HX.out] at this; exact this) (by omega)
        clear HI
        go_wp2_with fail
        go_quiet (fail)
        have ca := hca nq
        obtain ⟨l, hl1, hl2⟩ := HZ.out nq
        have HL1 := Lib.hid hl1
        have HL2 := Lib.hid hl2
        clear hca HZ hl1 hl2
        generalize wr.drewN nq = w3 at ca HL1 HL2 ⊢
        go_upto_region 6 with fail
        go_wp2_with (at_builtin
                     refine wpList_append_row rfl (.tmp 39) (.tmp 44) 22 22 3 rfl Try.underlying22 info3 Ao q cap 1 l [.int .i64 (x : Int)] (.slice (some ⟨w3.heap.size, 0, none⟩) 1 1) rfl rfl HL1.out rfl (Src.oneInt Try.underlying22 w3 .i64 (x : Int) 1 3) (by omega) (by omega) ?_
                     intro A9 c9 w9 hrow9 honly9 hlies9
                     have H9 := Lib.hid (HL2.out _ _ _ hrow9 honly9 hlies9)
                     clear hrow9 honly9 hlies9)
        go_roundg (gk - 1)
        case measure => omega
        case rel => exact ⟨i + 1, p, q + 1, c9, A9, rfl, by go_num, rfl, by omega, by omega, by omega, by omega, by omega, H9⟩
    · obtain rfl : i = n := by omega
      have din : decide ((i : Int) < (i : Int)) = false := by simp
      by_cases hpm : p < m
      · obtain ⟨bb, ob, rfl, _, hcb⟩ := (HSb.out.new HI.out.new) p _ (ints_at b p (by rw [HM.out]; exact hpm))
        obtain ⟨y, hy⟩ : ∃ y, ln b p = y := ⟨_, rfl⟩
        rw [hy] at hcb
        have HY := Lib.hid hy
        have hcb : ∀ nq, (wr.drewN nq).cell? ⟨bb, ob + p, none⟩ = some (.int .i64 (y : Int)) := fun _ => hcb
        have npm : ¬ (p : Int) = (m : Int) := by omega
        have dpm : ((p : Int) == (m : Int)) = false := by simpa using npm
        clear hy
        have HZ := Lib.hid fun nq => HI.out.step (nq := nq) (x := y) (i' := i) (p' := p + 1) (by have := mrg_right a b i p (by rw [HM.out]; exact hpm) (fun h => by rw [HN.out] at h; omega); rw [HY.out] at this; exact this) (by omega)
        clear HI
        go_wp2_with fail
        go_quiet (fail)
        have cb := hcb nq
        obtain ⟨l, hl1, hl2⟩ := HZ.out nq
        have HL1 := Lib.hid hl1
        have HL2 := Lib.hid hl2
        clear hcb HZ hl1 hl2
        generalize wr.drewN nq = w3 at cb HL1 HL2 ⊢
        go_upto_region 8 with fail
        go_wp2_with (at_builtin
                     refine wpList_append_row rfl (.tmp 48) (.tmp 53) 22 22 3 rfl Try.underlying22 info3 Ao q cap 1 l [.int .i64 (y : Int)] (.slice (some ⟨w3.heap.size, 0, none⟩) 1 1) rfl rfl HL1.out rfl (Src.oneInt Try.underlying22 w3 .i64 (y : Int) 1 3) (by omega) (by omega) ?_
                     intro A9 c9 w9 hrow9 honly9 hlies9
                     have H9 := Lib.hid (HL2.out _ _ _ hrow9 honly9 hlies9)
                     clear hrow9 honly9 hlies9)
        go_roundg (gk - 1)
        case measure => omega
        case rel => exact ⟨i, p + 1, q + 1, c9, A9, rfl, rfl, by go_num, by omega, by omega, by omega, by omega, by omega, H9⟩
      · obtain rfl : p = m := by omega
        obtain ⟨l, h1, h2, h3, h4⟩ := HI.out
        have hl : l = mrg a b := by
          rw [← h3, List.drop_eq_nil_of_le (by rw [HN.out]; exact Nat.le_refl _), List.drop_eq_nil_of_le (by rw [HM.out]; exact Nat.le_refl _)]
          simp [mrg]
        have HZ : Hid (MergedPost w (mrg a b) (.returned (.slice Ao q cap)) wr) := Lib.hid ⟨Ao, cap, by rw [← hl, h1], by rw [← hl, h1]; exact h4⟩
        clear h1 h2 h3 h4 hl HI
        go_wp2
        go_ret
        exact HZ.out
end Go.Proofs.Ytjbohidkjlnalaa
