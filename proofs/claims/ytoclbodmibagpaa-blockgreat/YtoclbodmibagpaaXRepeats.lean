/- Layer 10: symbols that repeat, added to a row of symbols, by the program. -/
import Derived.Test.YtoclbodmibagpaaXA
namespace Go.Proofs.Ytoclbodmibagpaa
open Go.RowKit

/-- A row of symbols of the call's own, laid since w0. -/
def Bag (w0 : World) (A : Option Addr) (n c : Nat) (p : List Ru) (wx : World) : Prop := p.length = n ∧ Rs 172 2 wx A n c (rus p) ∧ Only (fun _ => False) w0 wx ∧ ∀ j, Lies A j → w0.heap.size ≤ j
theorem Bag.nil (w : World) : Bag w none 0 0 [] w := ⟨rfl, Rs.nil 172 2 w, Only.refl _ w, by rintro j ⟨ad, e, _⟩; cases e⟩
theorem Bag.alloc {w0 wx : World} {A : Option Addr} {n c : Nat} {p : List Ru} (h : Bag w0 A n c p wx) (o : Obj) : Bag w0 A n c p (wx.alloc o) := ⟨h.1, h.2.1.alloc o, h.2.2.1.alloc o, h.2.2.2⟩
theorem Bag.new {w0 wx wy : World} {A : Option Addr} {n c : Nat} {p : List Ru} (h : Bag w0 A n c p wx) (k : Only (fun _ => False) wx wy) : Bag w0 A n c p wy := ⟨h.1, h.2.1.only k fun _ _ f => f, h.2.2.1.trans k, h.2.2.2⟩
theorem Bag.see {w0 wx : World} {A : Option Addr} {n c : Nat} {p : List Ru} (h : Bag w0 A n c p wx) : See wx wx.heap.size A (rus p) := h.2.1.see
theorem Bag.more {w0 wx wy : World} {A A' : Option Addr} {n c c' : Nat} {p : List Ru} {o : Obj} {s m : Int} (h : Bag w0 A n c p wx) (hr : Rs 172 2 wy A' (n + 1) c' (rus p ++ [.int .i64 s, .int .i64 m])) (ho : Only (Lies A) (wx.alloc o) wy)
    (ha : A' = A ∨ A' = some ⟨(wx.alloc o).heap.size, 0, none⟩) : Bag w0 A' (n + 1) c' (p ++ [⟨s, m⟩]) wy := by
  have e : rus p ++ [.int .i64 s, .int .i64 m] = rus (p ++ [⟨s, m⟩]) := rus_snoc p ⟨s, m⟩
  rw [e] at hr
  refine ⟨by simp [h.1], hr, (h.2.2.1.alloc o).andThen ho fun j hj => .inr (h.2.2.2 j hj), fun j hj => ?_⟩
  rcases ha with e1 | e1
  · exact h.2.2.2 j (e1 ▸ hj)
  · obtain ⟨ad, e2, e3⟩ := hj
    rw [e1] at e2
    obtain rfl := Option.some.inj e2
    have h1 := h.2.2.1.size
    have h2 : (wx.alloc o).heap.size = j := e3
    simp at h2
    omega

def RepPostX (w0 : World) (n : Nat) (p : List Ru) (s : Int) (b : Bool) (x t0 : Nat) (e : Ending) (w' : World) : Prop :=
  ∃ (A' : Option Addr) (q c' k t : Nat) (l : List Ru), e = .returned (.tuple #[.slice A' q c', .int .i64 t]) ∧ q ≤ n + t0 ∧ Bag w0 A' q c' (p ++ l) w' ∧ Reps s b x t0 l k t ∧ t < leastF s ∧ t ≤ t0

set_option maxHeartbeats 2000000 in
theorem repeats (w0 w : World) (A : Option Addr) (n c t0 x : Nat) (p : List Ru) (s : Int) (b : Bool) (h : Bag w0 A n c p w) (hn : n ≤ 10000) (ht : t0 ≤ 10000) (hs : (s = 16 ∧ b = true) ∨ ((s = 17 ∨ s = 18) ∧ x = 0)) :
    Calls Try.prog 145 #[.slice A n c, .int .i64 s, .int .i64 t0] w (RepPostX w0 n p s b x t0) := by
  have HB := Lib.hid h
  have HS := Lib.hid hs
  have hl := least_le s
  have hm := most_le s
  obtain ⟨fr, hfr⟩ : ∃ fr, leastF s = fr := ⟨_, rfl⟩
  obtain ⟨mx, hmx⟩ : ∃ mx, mostF s = mx := ⟨_, rfl⟩
  rw [hfr] at hl
  rw [hmx] at hm
  have HFR := Lib.hid hfr
  have HMX := Lib.hid hmx
  clear h hs hfr hmx
  go_enter Try.func145, Try.ntmps145
  go_wp2_with (go_at_call 162; refine (leastOf_ s _).mono ?_; rintro e w1 ⟨rfl, rfl⟩; rw [HFR.out])
  go_loopg [0, 2] t0 (fun gk v0 v2 wx => ∃ (A' : Option Addr) (q c' k t : Nat) (l : List Ru), v0 = .slice A' q c' ∧ v2 = .int .i64 t ∧ t ≤ gk ∧ t ≤ t0 ∧ q + t ≤ n + t0 ∧ Hid (Bag w0 A' q c' (p ++ l) wx) ∧ Hid (Reps s b x t0 l k t))
  case atStart => exact ⟨A, n, c, 0, t0, [], rfl, rfl, Nat.le_refl _, Nat.le_refl _, Nat.le_refl _, by rw [List.append_nil]; exact HB, Lib.hid (Reps.start s b x t0)⟩
  case round =>
    clear HB
    obtain ⟨A', q, c', k, t, l, rfl, rfl, hg1, hg2, hq, HB, HR⟩ := hrel
    by_cases hlt : fr ≤ t
    · obtain ⟨d, hd⟩ : ∃ d, t - fr = d := ⟨_, rfl⟩
      have ed : (t : Int) - (fr : Int) = (d : Int) := by omega
      obtain ⟨m, hmin⟩ : ∃ m, min d mx = m := ⟨_, rfl⟩
      have em : min (d : Int) (mx : Int) = (m : Int) := by omega
      have EM := Lib.hid em
      clear em
      obtain ⟨f, hf⟩ : ∃ f, fr + m = f := ⟨_, rfl⟩
      have ef : (fr : Int) + (m : Int) = (f : Int) := by omega
      obtain ⟨u, hu⟩ : ∃ u, t - f = u := ⟨_, rfl⟩
      have eu : (t : Int) - (f : Int) = (u : Int) := by omega
      have hu1 : u + 1 ≤ t := by omega
      have hlt2 : (fr : Int) ≤ (t : Int) := by omega
      have HN : Hid (Reps s b x t0 (l ++ [⟨s, m⟩]) (k + f) u) := Lib.hid (by
        have := HR.out.step (m := m) HS.out (by rw [HFR.out]; exact hlt) (by rw [HFR.out, HMX.out, hd]; exact hmin)
        rw [HFR.out, hf, hu] at this
        exact this)
      clear hd hmin hf hu HR
      go_upto_region 4 with (go_at_call 163; refine (mostMore s _).mono ?_; rintro e w1 ⟨rfl, rfl⟩; rw [HMX.out])
      rw [EM.out]
      go_wp2_with (at_builtin
                   refine wpList_append_rs rfl (.tmp 21) (.tmp 25) 113 113 172 rfl Try.underlying113 info36 zero36 A' q c' (rus (p ++ l)) [.int .i64 s, .int .i64 (m : Int)] (.slice (some ⟨wr.heap.size, 0, none⟩) 1 1) (by rfl) (by rfl) (HB.out.2.1.alloc _) (Src.oneRu wr s m 1 172) (by omega) (by omega) ?_
                   intro A2 c2 w2 hrow2 honly2 hlies2
                   have HB2 := Lib.hid (HB.out.more hrow2 honly2 hlies2)
                   clear hrow2 honly2 hlies2)
      go_roundg (gk - 1)
      case measure => omega
      case rel => exact ⟨A2, q + 1, c2, k + f, u, l ++ [⟨s, m⟩], rfl, rfl, by omega, by omega, by omega, by rw [← List.append_assoc]; exact HB2, HN⟩
    · have hlt2 : ¬ (fr : Int) ≤ (t : Int) := by omega
      have hlt3 : t < fr := by omega
      go_wp2
      go_ret2
      exact ⟨A', q, c', k, t, l, rfl, by omega, HB.out, HR.out, by rw [HFR.out]; exact hlt3, hg2⟩
end Go.Proofs.Ytoclbodmibagpaa
