/- Layer 10, the program: a row of numbers, packed; symbols counted. -/
import Derived.Test.YtjlkjebmilfgoaaGreatXA
import Derived.Test.YtjlkjebmilfgoaaGreatM3
import Derived.Laws.StructEq
import Derived.ChangeKeysEq
/- Layer 10: symbols that repeat, added to a row of symbols, by the program. -/
namespace Go.Proofs.YtjlkjebmilfgoaaGreat
open Go.RowKit

/-- A row of symbols of the call's own, laid since w0. -/
def Bag (w0 : World) (A : Option Addr) (n c : Nat) (p : List Ru) (wx : World) : Prop := p.length = n ∧ Rs 105 2 wx A n c (rus p) ∧ Only (fun _ => False) w0 wx ∧ ∀ j, Lies A j → w0.heap.size ≤ j
theorem Bag.nil (w : World) : Bag w none 0 0 [] w := ⟨rfl, Rs.nil 105 2 w, Only.refl _ w, by rintro j ⟨ad, e, _⟩; cases e⟩
theorem Bag.alloc {w0 wx : World} {A : Option Addr} {n c : Nat} {p : List Ru} (h : Bag w0 A n c p wx) (o : Obj) : Bag w0 A n c p (wx.alloc o) := ⟨h.1, h.2.1.alloc o, h.2.2.1.alloc o, h.2.2.2⟩
theorem Bag.new {w0 wx wy : World} {A : Option Addr} {n c : Nat} {p : List Ru} (h : Bag w0 A n c p wx) (k : Only (fun _ => False) wx wy) : Bag w0 A n c p wy := ⟨h.1, h.2.1.only k fun _ _ f => f, h.2.2.1.trans k, h.2.2.2⟩
theorem Bag.see {w0 wx : World} {A : Option Addr} {n c : Nat} {p : List Ru} (h : Bag w0 A n c p wx) : See wx wx.heap.size A (rus p) := h.2.1.see
theorem Bag.more {w0 wx wy : World} {A A' : Option Addr} {n c c' : Nat} {p : List Ru} {o : Obj} {s m : Int} (h : Bag w0 A n c p wx) (hr : Rs 105 2 wy A' (n + 1) c' (rus p ++ [.int .i64 s, .int .i64 m])) (ho : Only (Lies A) (wx.alloc o) wy)
    (ha : A' = A ∨ A' = some ⟨(wx.alloc o).heap.size, 0, none⟩) : Bag w0 A' (n + 1) c' (p ++ [⟨s, m⟩]) wy := by
  have e : rus p ++ [.int .i64 s, .int .i64 m] = rus (p ++ [⟨s, m⟩]) := rus_snoc p ⟨s, m⟩
  rw [e] at hr
  refine ⟨by simp [h.1], hr, (h.2.2.1.alloc o).andThen ho fun j hj => .inr (h.2.2.2 j hj), fun j hj => ?_⟩
  rcases ha with e1 | e1
  · exact h.2.2.2 j (e1 ▸ hj)
  · obtain ⟨ad, e2, e3⟩ := hj
    rw [e1] at e2
    obtain rfl := Option.some.inj e2
    have h1 := h.2.2.1.size
    have h2 : (wx.alloc o).heap.size = j := e3
    simp at h2
    omega

def RepPostX (w0 : World) (n : Nat) (p : List Ru) (s : Int) (b : Bool) (x t0 : Nat) (e : Ending) (w' : World) : Prop :=
  ∃ (A' : Option Addr) (q c' k t : Nat) (l : List Ru), e = .returned (.tuple #[.slice A' q c', .int .i64 t]) ∧ q ≤ n + t0 ∧ Bag w0 A' q c' (p ++ l) w' ∧ Reps s b x t0 l k t ∧ t < leastF s ∧ t ≤ t0

set_option maxHeartbeats 2000000 in
theorem repeats (w0 w : World) (A : Option Addr) (n c t0 x : Nat) (p : List Ru) (s : Int) (b : Bool) (h : Bag w0 A n c p w) (hn : n ≤ 10000) (ht : t0 ≤ 10000) (hs : (s = 16 ∧ b = true) ∨ ((s = 17 ∨ s = 18) ∧ x = 0)) :
    Calls Tryz.prog 108 #[.slice A n c, .int .i64 s, .int .i64 t0] w (RepPostX w0 n p s b x t0) := by
  have HB := Lib.hid h
  have HS := Lib.hid hs
  have hl := least_le s
  have hm := most_le s
  obtain ⟨fr, hfr⟩ : ∃ fr, leastF s = fr := ⟨_, rfl⟩
  obtain ⟨mx, hmx⟩ : ∃ mx, mostF s = mx := ⟨_, rfl⟩
  rw [hfr] at hl
  rw [hmx] at hm
  have HFR := Lib.hid hfr
  have HMX := Lib.hid hmx
  clear h hs hfr hmx
  go_enter Tryz.func108, Tryz.ntmps108
  go_wp2_with (go_at_call 128; refine (leastOf_ s _).mono ?_; rintro e w1 ⟨rfl, rfl⟩; rw [HFR.out])
  go_loopg [0, 2] t0 (fun gk v0 v2 wx => ∃ (A' : Option Addr) (q c' k t : Nat) (l : List Ru), v0 = .slice A' q c' ∧ v2 = .int .i64 t ∧ t ≤ gk ∧ t ≤ t0 ∧ q + t ≤ n + t0 ∧ Hid (Bag w0 A' q c' (p ++ l) wx) ∧ Hid (Reps s b x t0 l k t))
  case atStart => exact ⟨A, n, c, 0, t0, [], rfl, rfl, Nat.le_refl _, Nat.le_refl _, Nat.le_refl _, by rw [List.append_nil]; exact HB, Lib.hid (Reps.start s b x t0)⟩
  case round =>
    clear HB
    obtain ⟨A', q, c', k, t, l, rfl, rfl, hg1, hg2, hq, HB, HR⟩ := hrel
    by_cases hlt : fr ≤ t
    · obtain ⟨d, hd⟩ : ∃ d, t - fr = d := ⟨_, rfl⟩
      have ed : (t : Int) - (fr : Int) = (d : Int) := by omega
      obtain ⟨m, hmin⟩ : ∃ m, min d mx = m := ⟨_, rfl⟩
      have em : min (d : Int) (mx : Int) = (m : Int) := by omega
      have EM := Lib.hid em
      clear em
      obtain ⟨f, hf⟩ : ∃ f, fr + m = f := ⟨_, rfl⟩
      have ef : (fr : Int) + (m : Int) = (f : Int) := by omega
      obtain ⟨u, hu⟩ : ∃ u, t - f = u := ⟨_, rfl⟩
      have eu : (t : Int) - (f : Int) = (u : Int) := by omega
      have hu1 : u + 1 ≤ t := by omega
      have hlt2 : (fr : Int) ≤ (t : Int) := by omega
      have HN : Hid (Reps s b x t0 (l ++ [⟨s, m⟩]) (k + f) u) := Lib.hid (by
        have := HR.out.step (m := m) HS.out (by rw [HFR.out]; exact hlt) (by rw [HFR.out, HMX.out, hd]; exact hmin)
        rw [HFR.out, hf, hu] at this
        exact this)
      clear hd hmin hf hu HR
      go_upto_region 4 with (go_at_call 129; refine (mostMore s _).mono ?_; rintro e w1 ⟨rfl, rfl⟩; rw [HMX.out])
      rw [EM.out]
      go_wp2_with (at_builtin
                   refine wpList_append_rs rfl (.tmp 21) (.tmp 25) 73 73 105 rfl Tryz.underlying73 info36 zero36 A' q c' (rus (p ++ l)) [.int .i64 s, .int .i64 (m : Int)] (.slice (some ⟨wr.heap.size, 0, none⟩) 1 1) (by rfl) (by rfl) (HB.out.2.1.alloc _) (Src.oneRu wr s m 1 105) (by omega) (by omega) ?_
                   intro A2 c2 w2 hrow2 honly2 hlies2
                   have HB2 := Lib.hid (HB.out.more hrow2 honly2 hlies2)
                   clear hrow2 honly2 hlies2)
      go_roundg (gk - 1)
      case measure => omega
      case rel => exact ⟨A2, q + 1, c2, k + f, u, l ++ [⟨s, m⟩], rfl, rfl, by omega, by omega, by omega, by rw [← List.append_assoc]; exact HB2, HN⟩
    · have hlt2 : ¬ (fr : Int) ≤ (t : Int) := by omega
      have hlt3 : t < fr := by omega
      go_wp2
      go_ret2
      exact ⟨A', q, c', k, t, l, rfl, by omega, HB.out, HR.out, by rw [HFR.out]; exact hlt3, hg2⟩
end Go.Proofs.YtjlkjebmilfgoaaGreat

/- Layer 10, the program: runs of the same number. -/
/- Layer 10: symbols that say one number so many times, added to a row of symbols, by the program. -/
namespace Go.Proofs.YtjlkjebmilfgoaaGreat
open Go.RowKit

def SamePostX (w0 : World) (n : Nat) (p : List Ru) (x t : Nat) (e : Ending) (w' : World) : Prop :=
  ∃ (A' : Option Addr) (q c' : Nat) (l : List Ru), e = .returned (.slice A' q c') ∧ q ≤ n + t ∧ Bag w0 A' q c' (p ++ l) w' ∧ Same x t l
theorem rep_snoc (l : List Ru) (r : Ru) (j : Nat) : l ++ List.replicate j r ++ [r] = l ++ List.replicate (j + 1) r := by rw [List.replicate_succ', List.append_assoc]

set_option maxHeartbeats 4000000 in
theorem same_zero (w0 w : World) (A : Option Addr) (n c t0 : Nat) (p : List Ru) (h : Bag w0 A n c p w) (hn : n ≤ 2000) (ht : t0 ≤ 2000) :
    Calls Tryz.prog 80 #[.slice A n c, .int .i64 0, .int .i64 t0] w (SamePostX w0 n p 0 t0) := by
  have HB := Lib.hid h
  have HPN := Lib.hid h.1
  clear h
  go_enter Tryz.func80, Tryz.ntmps80
  go_upto_region 3 with (go_at_call 108; refine (repeats w0 _ A n c t0 0 p 18 false HB.out (by omega) (by omega) (.inr ⟨.inr rfl, rfl⟩)).mono ?_; rintro e w1 ⟨A1, q1, c1, k1, t1, l1, rfl, hq1, hb1, hr1, hl1, ht1⟩; have HB1 := Lib.hid hb1; have HR1 := Lib.hid hr1; have HL1 := Lib.hid hl1; clear hb1 hr1 hl1)
  clear HB
  go_upto_region 6 with (go_at_call 108; refine (repeats w0 _ A1 q1 c1 t1 0 (p ++ l1) 17 false HB1.out (by omega) (by omega) (.inr ⟨.inl rfl, rfl⟩)).mono ?_; rintro e w2 ⟨A2, q2, c2, k2, t2, l2, rfl, hq2, hb2, hr2, hl2, ht2⟩; have HB2 := Lib.hid hb2; have HS := Lib.hid (same_zeros HR1.out HL1.out hr2 hl2); clear hb2 hr2 hl2)
  have HQ : Hid (q2 + t2 ≤ n + t0) := Lib.hid (by
    have h1 := HB2.out.1
    have h2 := HS.out.2.1
    have h3 := HB1.out.1
    simp only [List.length_append, List.length_replicate] at h1 h2 h3
    have h4 := HPN.out
    omega)
  clear HB1 HR1 HL1
  go_wp2_with fail
  go_loopg [0, 34] t2 (fun gk v0 i wx => ∃ (A' : Option Addr) (q c' j : Nat), v0 = .slice A' q c' ∧ i = .int .i64 j ∧ j + gk ≤ t2 ∧ t2 ≤ j + gk ∧ q2 + j = q ∧ Hid (Bag w0 A' q c' (p ++ l1 ++ l2 ++ List.replicate j ⟨0, 0⟩) wx))
  case atStart => exact ⟨A2, q2, c2, 0, rfl, rfl, by omega, by omega, by omega, by rw [List.replicate_zero, List.append_nil]; exact HB2⟩
  case round =>
    clear HB2
    obtain ⟨A', q, c', j, rfl, rfl, hg1, hg2, hq, HB⟩ := hrel
    by_cases hlt : j < t2
    · go_wp2_with (at_builtin
                   refine wpList_append_rs rfl (.tmp 36) (.tmp 39) 73 73 105 rfl Tryz.underlying73 info36 zero36 A' q c' _ [.int .i64 0, .int .i64 0] (.slice (some ⟨wr.heap.size, 0, none⟩) 1 1) (by rfl) (by rfl) (HB.out.2.1.alloc _) (Src.oneRu wr 0 0 1 105) (by omega) (by omega) ?_
                   intro A4 c4 w4 hrow4 honly4 hlies4
                   have HB4 := Lib.hid (HB.out.more hrow4 honly4 hlies4)
                   clear hrow4 honly4 hlies4)
      go_roundg (gk - 1)
      case measure => omega
      case rel => exact ⟨A4, q + 1, c4, j + 1, rfl, by go_num, by omega, by omega, by omega, by rw [← rep_snoc]; exact HB4⟩
    · obtain rfl : j = t2 := by omega
      go_wp2
      go_ret
      refine ⟨A', q, c', _, rfl, by have := HQ.out; omega, ?_, HS.out⟩
      have := HB.out
      simp only [List.append_assoc] at this ⊢
      exact this

set_option maxHeartbeats 4000000 in
theorem same_other (w0 w : World) (A : Option Addr) (n c t0 x : Nat) (p : List Ru) (h : Bag w0 A n c p w) (hn : n ≤ 2000) (ht : t0 ≤ 2000) (ht1 : 1 ≤ t0) (hx1 : x ≠ 0) (hx : x ≤ 15) :
    Calls Tryz.prog 80 #[.slice A n c, .int .i64 x, .int .i64 t0] w (SamePostX w0 n p x t0) := by
  have HB := Lib.hid h
  have hx2 : ((x : Int) == 0) = false := by simp; omega
  obtain ⟨u, hu⟩ : ∃ u, t0 - 1 = u := ⟨_, rfl⟩
  have eu : (t0 : Int) - 1 = (u : Int) := by omega
  clear h
  go_enter Tryz.func80, Tryz.ntmps80
  go_upto_region 5 with (at_builtin
                         refine wpList_append_rs rfl (.tmp 21) (.tmp 24) 73 73 105 rfl Tryz.underlying73 info36 zero36 A n c _ [.int .i64 x, .int .i64 0] (.slice (some ⟨w.heap.size, 0, none⟩) 1 1) (by rfl) (by rfl) (HB.out.2.1.alloc _) (Src.oneRu w x 0 1 105) (by omega) (by omega) ?_
                         intro A1 c1 w1 hrow1 honly1 hlies1
                         have HB1 := Lib.hid (HB.out.more hrow1 honly1 hlies1)
                         clear hrow1 honly1 hlies1)
  go_upto_region 6 with (go_at_call 108; refine (repeats w0 _ A1 (n + 1) c1 u x (p ++ [⟨x, 0⟩]) 16 true HB1.out (by omega) (by omega) (.inl ⟨rfl, rfl⟩)).mono ?_; rintro e w2 ⟨A2, q2, c2, k2, t2, l2, rfl, hq2, hb2, hr2, hl2, ht2⟩; have HB2 := Lib.hid hb2; have HR2 := Lib.hid hr2; have HL2 := Lib.hid hl2; clear hb2 hr2 hl2)
  have HS : Hid (Same x t0 ([⟨x, 0⟩] ++ l2 ++ List.replicate t2 ⟨x, 0⟩)) := Lib.hid (same_others hx1 hx ht1 (by rw [hu]; exact HR2.out) HL2.out)
  have HQ : Hid (q2 + t2 ≤ n + t0) := Lib.hid (by
    have h1 := HB2.out.1
    have h2 := HS.out.2.1
    have h3 := HB.out.1
    simp only [List.length_append, List.length_replicate, List.length_singleton] at h1 h2
    omega)
  clear HB HB1 HR2 HL2
  go_wp2_with fail
  go_loopg [0, 34] t2 (fun gk v0 i wx => ∃ (A' : Option Addr) (q c' j : Nat), v0 = .slice A' q c' ∧ i = .int .i64 j ∧ j + gk ≤ t2 ∧ t2 ≤ j + gk ∧ q2 + j = q ∧ Hid (Bag w0 A' q c' (p ++ [⟨x, 0⟩] ++ l2 ++ List.replicate j ⟨x, 0⟩) wx))
  case atStart => exact ⟨A2, q2, c2, 0, rfl, rfl, by omega, by omega, by omega, by rw [List.replicate_zero, List.append_nil]; exact HB2⟩
  case round =>
    clear HB2
    obtain ⟨A', q, c', j, rfl, rfl, hg1, hg2, hq, HB⟩ := hrel
    by_cases hlt : j < t2
    · go_wp2_with (at_builtin
                   refine wpList_append_rs rfl (.tmp 36) (.tmp 39) 73 73 105 rfl Tryz.underlying73 info36 zero36 A' q c' _ [.int .i64 x, .int .i64 0] (.slice (some ⟨wr.heap.size, 0, none⟩) 1 1) (by rfl) (by rfl) (HB.out.2.1.alloc _) (Src.oneRu wr x 0 1 105) (by omega) (by omega) ?_
                   intro A4 c4 w4 hrow4 honly4 hlies4
                   have HB4 := Lib.hid (HB.out.more hrow4 honly4 hlies4)
                   clear hrow4 honly4 hlies4)
      go_roundg (gk - 1)
      case measure => omega
      case rel => exact ⟨A4, q + 1, c4, j + 1, rfl, by go_num, by omega, by omega, by omega, by rw [← rep_snoc]; exact HB4⟩
    · obtain rfl : j = t2 := by omega
      go_wp2
      go_ret
      refine ⟨A', q, c', _, rfl, by have := HQ.out; omega, ?_, HS.out⟩
      have := HB.out
      simp only [List.append_assoc] at this ⊢
      exact this
theorem same (w0 w : World) (A : Option Addr) (n c t0 x : Nat) (p : List Ru) (h : Bag w0 A n c p w) (hn : n ≤ 2000) (ht : t0 ≤ 2000) (ht1 : 1 ≤ t0) (hx : x ≤ 15) :
    Calls Tryz.prog 80 #[.slice A n c, .int .i64 x, .int .i64 t0] w (SamePostX w0 n p x t0) := by
  by_cases h0 : x = 0
  · subst h0
    exact same_zero w0 w A n c t0 p h hn ht
  · exact same_other w0 w A n c t0 x p h hn ht ht1 h0 hx
end Go.Proofs.YtjlkjebmilfgoaaGreat

/- Layer 10: how many numbers from a place on are the one that stands there. -/
namespace Go.Proofs.YtjlkjebmilfgoaaGreat
open Go.RowKit

def FromPost (l : List Nat) (a : Nat) (w : World) (e : Ending) (w' : World) : Prop := ∃ t : Nat, e = .returned (.int .i64 t) ∧ SameAt l a t ∧ Only (fun _ => False) w w'
/-- Where looking stands. -/
def FromAt (l : List Nat) (a e : Nat) : Prop := ∀ i, a ≤ i → i < e → l.getD i 0 = l.getD a 0

set_option maxHeartbeats 2000000 in
theorem same_from (A : Option Addr) (n c B a : Nat) (l : List Nat) (w : World) (h : See w B A (ints l)) (hn : l.length = n) (hb : n ≤ 1000000) (ha : a < n) : Calls Tryz.prog 79 #[.slice A n c, .int .i64 a] w (FromPost l a w) := by
  have HS := Lib.hid h
  have HN := Lib.hid hn
  clear h hn
  go_enter Tryz.func79, Tryz.ntmps79
  go_wp2_with fail
  go_loopg [5] n (fun gk i wx => ∃ q : Nat, i = .int .i64 q ∧ q + gk ≤ n + a + 1 ∧ n ≤ q + gk ∧ a < q ∧ q ≤ n ∧ Hid (FromAt l a q) ∧ Hid (Only (fun _ => False) w wx))
  case atStart => exact ⟨a + 1, by go_num, by omega, by omega, by omega, by omega, Lib.hid fun i h1 h2 => by rw [show i = a by omega], Lib.hid (Only.refl _ w)⟩
  case round =>
    obtain ⟨q, rfl, hg1, hg2, hq1, hq2, HF, HO⟩ := hrel
    by_cases hlt : q < n
    · obtain ⟨b, off, rfl, _, hc⟩ := (HS.out.new HO.out) q _ (ints_atX l q (by rw [HN.out]; exact hlt))
      obtain ⟨b2, off2, e2, _, hd⟩ := (HS.out.new HO.out) a _ (ints_atX l a (by rw [HN.out]; exact ha))
      simp only [Option.some.injEq, Addr.mk.injEq, and_true] at e2
      obtain ⟨rfl, rfl⟩ := e2
      obtain ⟨x, hx⟩ : ∃ x, l.getD q 0 = x := ⟨_, rfl⟩
      obtain ⟨y, hy⟩ : ∃ y, l.getD a 0 = y := ⟨_, rfl⟩
      rw [hx] at hc
      rw [hy] at hd
      have HX := Lib.hid hx
      have HY := Lib.hid hy
      clear hx hy
      have hlt2 : (q : Int) < (n : Int) := by omega
      by_cases hxy : x = y
      · subst hxy
        have HF2 : Hid (FromAt l a (q + 1)) := Lib.hid (fun i h1 h2 => by
          rcases Nat.lt_or_ge i q with h3 | h3
          · exact HF.out i h1 h3
          · rw [show i = q by omega, HX.out, HY.out])
        go_wp2_with fail
        go_quiet (fail)
        go_wp2_with fail
        go_roundg (gk - 1)
        case measure => omega
        case rel => exact ⟨q + 1, by go_num, by omega, by omega, by omega, by omega, HF2, Lib.hid (HO.out.drewN _)⟩
      · have hne : ((x : Int) == (y : Int)) = false := by simp; omega
        have HT : Hid (SameAt l a (q - a)) := Lib.hid ⟨by omega, by rw [HN.out]; omega, fun i h1 h2 => HF.out i h1 (by omega), fun _ => by rw [show a + (q - a) = q by omega, HX.out, HY.out]; exact hxy⟩
        obtain ⟨t, ht⟩ : ∃ t, q - a = t := ⟨_, rfl⟩
        have et : (q : Int) - (a : Int) = (t : Int) := by omega
        rw [ht] at HT
        clear ht
        go_wp2_with fail
        go_quiet (fail)
        go_wp2
        go_ret
        exact ⟨t, rfl, HT.out, HO.out.drewN _⟩
    · obtain rfl : q = n := by omega
      have hlt2 : decide ((q : Int) < (q : Int)) = false := by simp
      have HT : Hid (SameAt l a (q - a)) := Lib.hid ⟨by omega, by rw [HN.out]; omega, fun i h1 h2 => HF.out i h1 (by omega), fun h => by rw [HN.out] at h; omega⟩
      obtain ⟨t, ht⟩ : ∃ t, q - a = t := ⟨_, rfl⟩
      have et : (q : Int) - (a : Int) = (t : Int) := by omega
      rw [ht] at HT
      clear ht
      go_wp2_with fail
      go_quiet (fail)
      go_wp2
      go_ret
      exact ⟨t, rfl, HT.out, HO.out.drewN _⟩
end Go.Proofs.YtjlkjebmilfgoaaGreat

/- Layer 10: whether a row holds a number that may not be (slices.IndexFunc, slices.ContainsFunc). -/
namespace Go.Proofs.YtjlkjebmilfgoaaGreat
open Go.RowKit

/-- The j first numbers may be. -/
def Fine (z : List Int) (j : Nat) : Prop := ∀ i, i < j → okN (z.getD i 0)
theorem Fine.more {z : List Int} {j : Nat} (h : Fine z j) (hj : okN (z.getD j 0)) : Fine z (j + 1) := fun i hi => by
  rcases Nat.lt_or_ge i j with h1 | h1
  · exact h i h1
  · rw [show i = j by omega]; exact hj
def FindPostX (z : List Int) (n : Nat) (w : World) (e : Ending) (w' : World) : Prop := ∃ r : Int, e = .returned (.int .i64 r) ∧ w = w' ∧ (Fine z n → r = -1) ∧ (¬ Fine z n → 0 ≤ r)

set_option maxHeartbeats 2000000 in
theorem index (A : Option Addr) (n c B : Nat) (z : List Int) (w : World) (h : See w B A (zints z)) (hn : z.length = n) (hb : n ≤ 1000000) : Calls Tryz.prog 107 #[.slice A n c, .func (.func 78) #[] #[]] w (FindPostX z n w) := by
  have HS := Lib.hid h
  have HN := Lib.hid hn
  clear h hn
  go_enter Tryz.func107, Tryz.ntmps107
  go_wp2_with fail
  go_loopg [8] n (fun gk i wx => ∃ j : Nat, i = .int .i64 j ∧ j + gk ≤ n ∧ n ≤ j + gk ∧ w = wx ∧ Hid (Fine z j))
  case atStart => exact ⟨0, rfl, by omega, by omega, rfl, Lib.hid fun i hi => by omega⟩
  case round =>
    obtain ⟨j, rfl, hg1, hg2, rfl, HF⟩ := hrel
    by_cases hlt : j < n
    · obtain ⟨b, off, rfl, _, hc⟩ := HS.out j _ (zints_at z j (by rw [HN.out]; exact hlt))
      obtain ⟨x, hx⟩ : ∃ x, z.getD j 0 = x := ⟨_, rfl⟩
      rw [hx] at hc
      have HX := Lib.hid hx
      clear hx
      by_cases hok : 0 ≤ x ∧ x ≤ 15
      · have hb : (decide (x < 0) || decide (15 < x)) = false := by simp; omega
        have C15 : Hid (∀ w1, Calls Tryz.prog 78 #[.int .i64 x] w1 fun e w' => e = .returned (.bool false) ∧ w1 = w') := Lib.hid fun w1 => by have := noNumber x w1; rw [hb] at this; exact this
        clear hb
        have HF2 : Hid (Fine z (j + 1)) := Lib.hid (HF.out.more (by rw [HX.out]; exact hok))
        clear hok
        go_wp2_with (go_at_call 78; refine (C15.out _).mono ?_; rintro e w1 ⟨rfl, rfl⟩)
        go_roundg (gk - 1)
        case measure => omega
        case rel => exact ⟨j + 1, by go_num, by omega, by omega, rfl, HF2⟩
      · have hb : (decide (x < 0) || decide (15 < x)) = true := by simp; omega
        have C15 : Hid (∀ w1, Calls Tryz.prog 78 #[.int .i64 x] w1 fun e w' => e = .returned (.bool true) ∧ w1 = w') := Lib.hid fun w1 => by have := noNumber x w1; rw [hb] at this; exact this
        have HB : Hid (¬ Fine z n) := Lib.hid fun hf => hok (by have := hf j hlt; rw [HX.out] at this; exact this)
        clear hb hok
        go_wp2_with (go_at_call 78; refine (C15.out _).mono ?_; rintro e w1 ⟨rfl, rfl⟩)
        go_ret
        exact ⟨j, rfl, rfl, fun hf => absurd hf HB.out, fun _ => by omega⟩
    · obtain rfl : j = n := by omega
      go_wp2
      go_ret
      exact ⟨-1, rfl, rfl, fun _ => rfl, fun hf => absurd HF.out hf⟩

theorem contains_no (A : Option Addr) (n c B : Nat) (z : List Int) (w : World) (h : See w B A (zints z)) (hn : z.length = n) (hb : n ≤ 1000000) (hf : Fine z n) : Calls Tryz.prog 77 #[.slice A n c, .func (.func 78) #[] #[]] w fun e w' => e = .returned (.bool false) ∧ w = w' := by
  have HC := Lib.hid (index A n c B z w h hn hb)
  have HF := Lib.hid hf
  clear h hn hf
  go_enter Tryz.func77, Tryz.ntmps77
  go_wp2_with (go_at_call 107; refine HC.out.mono ?_; rintro e w1 ⟨r, rfl, rfl, h1, h2⟩; obtain rfl := h1 HF.out; clear h1 h2)
  go_ret
  exact ⟨rfl, rfl⟩
theorem contains_yes (A : Option Addr) (n c B : Nat) (z : List Int) (w : World) (h : See w B A (zints z)) (hn : z.length = n) (hb : n ≤ 1000000) (hf : ¬ Fine z n) : Calls Tryz.prog 77 #[.slice A n c, .func (.func 78) #[] #[]] w fun e w' => e = .returned (.bool true) ∧ w = w' := by
  have HC := Lib.hid (index A n c B z w h hn hb)
  have HF := Lib.hid hf
  clear h hn hf
  go_enter Tryz.func77, Tryz.ntmps77
  go_wp2_with (go_at_call 107; refine HC.out.mono ?_; rintro e w1 ⟨r, rfl, rfl, h1, h2⟩; have hr := h2 HF.out; clear h1 h2)
  go_ret
  exact ⟨rfl, rfl⟩
end Go.Proofs.YtjlkjebmilfgoaaGreat

/- Layer 10, the program: symbols that say a row of numbers; rows that are refused. -/
namespace Go.Proofs.YtjlkjebmilfgoaaGreat
open Go.RowKit

def PackPost (w : World) (l : List Nat) (e : Ending) (w' : World) : Prop := ∃ (A : Option Addr) (q c : Nat) (p : List Ru), e = .returned (.tuple #[.slice A q c, .int .i64 0]) ∧ Bag w A q c p w' ∧ PackAt l l.length p
theorem fine_nat (l : List Nat) (n : Nat) (h : ∀ x ∈ l, x ≤ 15) : Fine (l.map fun x : Nat => (x : Int)) n := by
  intro i _
  rw [List.getD_eq_getElem?_getD, List.getElem?_map]
  cases hi : l[i]? with
  | none => exact ⟨by decide, by decide⟩
  | some x =>
    have := h x (List.mem_of_getElem? hi)
    exact ⟨by show (0 : Int) ≤ x; omega, by show (x : Int) ≤ 15; omega⟩
theorem low_at (l : List Nat) (h : ∀ x ∈ l, x ≤ 15) (i : Nat) : l.getD i 0 ≤ 15 := by
  rw [List.getD_eq_getElem?_getD]
  cases hi : l[i]? with
  | none => exact Nat.zero_le _
  | some x => exact h x (List.mem_of_getElem? hi)

theorem pack_bad (A : Option Addr) (n c B : Nat) (z : List Int) (w : World) (h : See w B A (zints z)) (hn : z.length = n) (hb : n ≤ 1000000) (hf : ¬ Fine z n) : Calls Tryz.prog 53 #[.slice A n c] w fun e w' => e = .returned (.tuple #[.slice none 0 0, .int .i64 1]) ∧ w = w' := by
  have HC := Lib.hid (contains_yes A n c B z w h hn hb hf)
  clear h hn hf
  go_enter Tryz.func53, Tryz.ntmps53
  go_wp2_with (go_at_call 77; refine HC.out.mono ?_; rintro e w1 ⟨rfl, rfl⟩)
  go_ret2
  exact ⟨rfl, rfl⟩
theorem pack_long (A : Option Addr) (n c B : Nat) (z : List Int) (w : World) (h : See w B A (zints z)) (hn : z.length = n) (hb : n ≤ 1000000) (hf : Fine z n) (hl : 1000 < n) : Calls Tryz.prog 53 #[.slice A n c] w fun e w' => e = .returned (.tuple #[.slice none 0 0, .int .i64 7]) ∧ w = w' := by
  have HC := Lib.hid (contains_no A n c B z w h hn hb hf)
  clear h hn hf
  go_enter Tryz.func53, Tryz.ntmps53
  go_wp2_with (go_at_call 77; refine HC.out.mono ?_; rintro e w1 ⟨rfl, rfl⟩)
  go_ret2
  exact ⟨rfl, rfl⟩

set_option maxHeartbeats 2000000 in
theorem pack (A : Option Addr) (n c B : Nat) (l : List Nat) (w : World) (h : See w B A (ints l)) (hn : l.length = n) (hb : n ≤ 1000) (hlow : ∀ x ∈ l, x ≤ 15) : Calls Tryz.prog 53 #[.slice A n c] w (PackPost w l) := by
  have HC := Lib.hid (contains_no A n c B (l.map fun x : Nat => (x : Int)) w (by rw [← ints_z]; exact h) (by simpa using hn) (by omega) (fine_nat l n hlow))
  have HS := Lib.hid h
  have HN := Lib.hid hn
  have HL := Lib.hid hlow
  clear h hn hlow
  go_enter Tryz.func53, Tryz.ntmps53
  go_wp2_with (go_at_call 77; refine HC.out.mono ?_; rintro e w1 ⟨rfl, rfl⟩)
  clear HC
  go_loopg [4, 5] n (fun gk v4 i wx => ∃ (A' : Option Addr) (q c' a : Nat) (p : List Ru), v4 = .slice A' q c' ∧ i = .int .i64 a ∧ n ≤ a + gk ∧ a ≤ n ∧ q ≤ a ∧ Hid (Bag w A' q c' p wx) ∧ Hid (PackAt l a p))
  case atStart => exact ⟨none, 0, 0, 0, [], rfl, rfl, by omega, by omega, by omega, Lib.hid (Bag.nil w), Lib.hid (PackAt.start l)⟩
  case round =>
    obtain ⟨A', q, c', a, p, rfl, rfl, hg2, ha, hq, HB, HP⟩ := hrel
    by_cases hlt : a < n
    · have hlt2 : (a : Int) < (n : Int) := by omega
      go_upto_region 9 with (go_at_call 79; refine (same_from A n c B a l _ (HS.out.new HB.out.2.2.1) HN.out (by omega) hlt).mono ?_; rintro e w1 ⟨t, rfl, hs, ho⟩; have HT := Lib.hid hs; have HO := Lib.hid ho; clear hs ho)
      have ht1 : 1 ≤ t := HT.out.1
      have ht2 : a + t ≤ n := by have := HT.out.2.1; rw [HN.out] at this; exact this
      have HB2 := Lib.hid (HB.out.new HO.out)
      obtain ⟨b, off, rfl, _, hd⟩ := (HS.out.new HB2.out.2.2.1) a _ (ints_atX l a (by rw [HN.out]; exact hlt))
      have hx := low_at l HL.out a
      obtain ⟨x, hx2⟩ : ∃ x, l.getD a 0 = x := ⟨_, rfl⟩
      rw [hx2] at hd hx
      have HX := Lib.hid hx2
      clear hx2 HB HO
      go_upto_region 10 with (go_at_call 80; refine (same w _ A' q c' t x p HB2.out (by omega) (by omega) ht1 hx).mono ?_; rintro e w2 ⟨A3, q3, c3, l3, rfl, hq3, hb3, hs3⟩; have HB3 := Lib.hid hb3; have HS3 := Lib.hid hs3; clear hb3 hs3)
      have HP3 : Hid (PackAt l (a + t) (p ++ l3)) := Lib.hid (HP.out.step HT.out (by rw [HX.out]; exact HS3.out))
      go_wp2_with fail
      go_roundg (gk - 1)
      case measure => omega
      case rel => exact ⟨A3, q3, c3, a + t, p ++ l3, rfl, by go_num, by omega, by omega, by omega, HB3, HP3⟩
    · obtain rfl : a = n := by omega
      go_wp2
      go_ret2
      exact ⟨A', q, c', p, rfl, HB.out, by rw [HN.out]; exact HP.out⟩
end Go.Proofs.YtjlkjebmilfgoaaGreat

/- Layer 10: whether a symbol may be, with what is behind it. -/
namespace Go.Proofs.YtjlkjebmilfgoaaGreat
open Go.RowKit

end Go.Proofs.YtjlkjebmilfgoaaGreat

/- Layer 10: how often each symbol comes, by the program. -/
namespace Go.Proofs.YtjlkjebmilfgoaaGreat
open Go.RowKit

/-- How often each of 19 symbols comes. -/
def bump (r : Ru) (l : List Nat) : List Nat := if 0 ≤ r.s ∧ r.s ≤ 18 then l.set r.s.toNat (l.getD r.s.toNat 0 + 1) else l
def countF (ts : List Ru) : List Nat := ts.foldl (fun l r => bump r l) (List.replicate 19 0)
theorem bump_length (r : Ru) (l : List Nat) : (bump r l).length = l.length := by
  unfold bump
  split <;> simp
theorem bump_le (r : Ru) (l : List Nat) (m : Nat) (h : ∀ i, l.getD i 0 ≤ m) : ∀ i, (bump r l).getD i 0 ≤ m + 1 := by
  intro i
  unfold bump
  split
  · rw [List.getD_eq_getElem?_getD, List.getElem?_set]
    split
    · split
      · have := h r.s.toNat
        simp
        simpa using this
      · simp
    · have := h i
      rw [List.getD_eq_getElem?_getD] at this
      omega
  · have := h i
    omega
theorem take_next {α : Type} (l : List α) (j : Nat) (t : α) (h : l[j]? = some t) : l.take (j + 1) = l.take j ++ [t] := by
  rw [List.take_add_one, h]
  rfl
theorem count_next (ts : List Ru) (j : Nat) (r : Ru) (h : ts[j]? = some r) : countF (ts.take (j + 1)) = bump r (countF (ts.take j)) := by
  unfold countF
  rw [take_next ts j r h, List.foldl_append]
  rfl
theorem count_facts (ts : List Ru) : (countF ts).length = 19 ∧ ∀ i, (countF ts).getD i 0 ≤ ts.length := by
  induction h : ts.length generalizing ts with
  | zero =>
    obtain rfl := List.eq_nil_of_length_eq_zero h
    refine ⟨by simp [countF], fun i => ?_⟩
    simp only [countF, List.foldl_nil, List.getD_eq_getElem?_getD, List.getElem?_replicate]
    split <;> simp
  | succ n ih =>
    obtain ⟨r, hr⟩ : ∃ r, ts[n]? = some r := ⟨ts[n]'(by omega), by simp [h]⟩
    have e := count_next ts n r hr
    rw [List.take_of_length_le (by omega)] at e
    have hi := ih (ts.take n) (by simp; omega)
    rw [e]
    exact ⟨by rw [bump_length]; exact hi.1, bump_le r _ n hi.2⟩
def CountPostX (w : World) (ts : List Ru) (e : Ending) (w' : World) : Prop := e = .returned (.agg (ints (countF ts)).toArray) ∧ Only (fun _ => False) w w'
theorem info34 : (Tryz.prog.info? 98).map (·.size) = some 19 := by kernel_rfl

/-- Where counting stands. -/
def CountAtX (w : World) (H : Nat) (ts : List Ru) (j : Nat) (wx : World) : Prop := Is wx (H + 1) 98 (ints (countF (ts.take j))) ∧ Is wx H 98 (List.replicate 19 (.int .i64 0)) ∧ Only (fun _ => False) w wx
theorem CountAtX.new {w wx wy : World} {H j : Nat} {ts : List Ru} (h : CountAtX w H ts j wx) (k : Only (fun _ => False) wx wy) : CountAtX w H ts j wy := ⟨h.1.only k fun f => f, h.2.1.only k fun f => f, h.2.2.trans k⟩
theorem bump_yes (r : Ru) (l : List Nat) (h : 0 ≤ r.s ∧ r.s ≤ 18) : bump r l = l.set r.s.toNat (l.getD r.s.toNat 0 + 1) := if_pos h
theorem bump_no (r : Ru) (l : List Nat) (h : ¬ (0 ≤ r.s ∧ r.s ≤ 18)) : bump r l = l := if_neg h

set_option maxRecDepth 20000 in
set_option maxHeartbeats 4000000 in
theorem counts (A : Option Addr) (n c B : Nat) (ts : List Ru) (w : World) (h : See w B A (rus ts)) (hn : ts.length = n) (hb : n ≤ 1000000) : Calls Tryz.prog 55 #[.slice A n c] w (CountPostX w ts) := by
  have HS := Lib.hid h
  have HN := Lib.hid hn
  clear h hn
  go_enter Tryz.func55, Tryz.ntmps55
  go_wp2_with fail
  have hst : CountAtX w w.heap.size ts 0 ((w.alloc (.cells (List.replicate 19 (Value.int .i64 0)).toArray 98)).alloc (.cells (List.replicate 19 (Value.int .i64 0)).toArray 98)) :=
    ⟨Is.new2 w _ 98 _, (Is.new w 98 _).alloc _, ((Only.refl _ w).alloc _).alloc _⟩
  obtain ⟨H, hH⟩ : ∃ H, w.heap.size = H := ⟨_, rfl⟩
  rw [hH] at hst
  have HST := Lib.hid hst
  clear hst
  have HH := Lib.hid hH
  try rw [hH]
  clear hH
  go_loopg [8] n (fun gk i wx => ∃ k : Nat, i = .int .i64 k ∧ k + gk ≤ n ∧ n ≤ k + gk ∧ Hid (CountAtX w H ts k wx))
  case atStart => exact ⟨0, rfl, by omega, by omega, HST⟩
  case round =>
    clear HST
    obtain ⟨j, rfl, hg1, hg2, HE⟩ := hrel
    by_cases hlt : j < n
    · obtain ⟨t, ht⟩ : ∃ t, ts[j]? = some t := ⟨ts[j]'(by rw [HN.out]; exact hlt), by simp [HN.out, hlt]⟩
      obtain ⟨b0, off, rfl, _, c0, c1⟩ := (HS.out.new HE.out.2.2).symX j t ht
      have HT := Lib.hid (count_next ts j t ht)
      obtain ⟨s, m⟩ := t
      simp only at c0 c1
      clear ht
      go_upto_region 5 with fail
      obtain ⟨wa, hwa⟩ : ∃ wa, wr.alloc (.cells #[.int .i64 s, .int .i64 m] 105) = wa := ⟨_, rfl⟩
      obtain ⟨g, hg⟩ : ∃ g, wr.heap.size = g := ⟨_, rfl⟩
      have hIa : Is wa g 105 (ruc ⟨s, m⟩) := by rw [← hwa, ← hg]; exact Is.new wr 105 _
      have HEa : Hid (CountAtX w H ts j wa) := Lib.hid (HE.out.new (hwa ▸ (Only.refl _ wr).alloc _))
      have ca0 := hIa.cell 0 rfl
      have HIa := Lib.hid hIa
      rw [hwa, hg]
      clear hwa hg hIa HE c0 c1
      by_cases hs : 0 ≤ s ∧ s ≤ 18
      · have hb2 : (decide (0 ≤ s) && decide (s ≤ 18)) = true := by simp; exact hs
        have C22 : Hid (∀ w1, Calls Tryz.prog 82 #[.int .i64 s] w1 fun e w' => e = .returned (.bool true) ∧ w1 = w') := Lib.hid fun w1 => by have := isSym s w1; rw [hb2] at this; exact this
        have hbu := bump_yes ⟨s, m⟩ (countF (ts.take j)) hs
        obtain ⟨p, hp⟩ : ∃ p, s.toNat = p := ⟨_, rfl⟩
        obtain rfl : s = (p : Int) := by omega
        have hp18 : p < 19 := by omega
        have hf := count_facts (ts.take j)
        have hlen : (ts.take j).length ≤ 1000000 := by rw [List.length_take, HN.out]; omega
        have d1 := HEa.out.1.cell p (ints_atX _ p (by rw [hf.1]; exact hp18))
        have d2 := HEa.out.1.frozen p
        have hy := hf.2 p
        simp only [hp] at hbu
        rw [hbu] at HT
        obtain ⟨y, hy1⟩ : ∃ y, (countF (ts.take j)).getD p 0 = y := ⟨_, rfl⟩
        rw [hy1] at d1 hy HT
        have hy3 : y ≤ 1000000 := by omega
        clear hf hlen hy hbu hy1 hp hb2 hs
        go_wp2_with (go_at_call 82; refine (C22.out _).mono ?_; rintro e w1 ⟨rfl, rfl⟩)
        go_roundg (gk - 1)
        case measure => omega
        case rel =>
          refine ⟨j + 1, by go_num, by omega, by omega, Lib.hid ⟨?_, HEa.out.2.1.far (p := ⟨H + 1, p, none⟩) (by simp) _, HEa.out.2.2.set (p := ⟨H + 1, p, none⟩) (.inr (by have := HH.out; simp; omega)) _⟩⟩
          rw [HT.out, ← ints_set]
          exact HEa.out.1.set p _
      · have hb2 : (decide (0 ≤ s) && decide (s ≤ 18)) = false := by simp; omega
        have C22 : Hid (∀ w1, Calls Tryz.prog 82 #[.int .i64 s] w1 fun e w' => e = .returned (.bool false) ∧ w1 = w') := Lib.hid fun w1 => by have := isSym s w1; rw [hb2] at this; exact this
        rw [bump_no ⟨s, m⟩ (countF (ts.take j)) hs] at HT
        have HS2 := Lib.hid hs
        clear hb2 hs
        go_wp2_with (go_at_call 82; refine (C22.out _).mono ?_; rintro e w1 ⟨rfl, rfl⟩)
        go_roundg (gk - 1)
        case measure => omega
        case rel => exact ⟨j + 1, by go_num, by omega, by omega, Lib.hid (by unfold CountAtX; rw [HT.out]; exact HEa.out)⟩
    · have ht : ts.take j = ts := List.take_of_length_le (by rw [HN.out]; omega)
      obtain ⟨h1, h2, h3⟩ := HE.out
      rw [ht] at h1
      have H1 := Lib.hid h1
      have H2 := Lib.hid h2
      have H3 := Lib.hid h3
      have hlen : (ints (countF ts)).length = 19 := by rw [ints_length]; exact (count_facts ts).1
      have HLn := Lib.hid hlen
      clear h1 h2 h3 ht hlen HE
      go_wp2_with (first
        | ((with_reducible show wpList _ _ _ (Oper.mk _ (Op.load _ _) _ _ _ _ :: _) _ _); refine wpList_load_is rfl 98 (.tmp 3) rfl (H + 1) rfl 98 _ H1.out Tryz.underlying98 (by rw [HLn.out]; exact info34) ?_)
        | ((with_reducible show wpList _ _ _ (Oper.mk _ (Op.store _ _ _) _ _ _ _ :: _) _ _); refine wpList_store_row rfl 98 (.tmp 2) (.tmp 22) rfl H _ rfl rfl 98 _ H2.out (by rw [List.size_toArray, HLn.out]; exact info34) (by rw [List.size_toArray, List.size_toArray, HLn.out]; rfl) (all_oneCell_toArray (ints_one _)) ?_))
      refine bodyPost_ret (results_cell_row rfl _ _ H 98 _ (0, 0) _ rfl (H2.out.row _) Tryz.underlying98 rfl (by rw [List.size_toArray, HLn.out]; exact info34)) rfl ?_
      exact ⟨rfl, H3.out.row (.inr (by have := HH.out; omega)) _⟩

/-- An array of numbers is like itself. -/
theorem plain3 : Tryz.prog.plainKey 3 = true := by kernel_rfl
theorem items_self (d : Nat) (l : List Nat) (w : World) : ∀ is : List Nat, (∀ i ∈ is, i < l.length) → (Op.eqItems (d + 1) 3 1 (ints l).toArray (ints l).toArray is).run Tryz.prog w = .ok true w
  | [], _ => by simp [Op.eqItems]
  | i :: is, h => by
    have hi := ints_atX l i (h i (by simp))
    have hp : (part 3 (ints l).toArray (i * 1)).run Tryz.prog w = .ok (.int .i64 (l.getD i 0 : Nat)) w := run_part_plain w plain3 (by rw [Nat.mul_one, List.getElem?_toArray]; exact hi)
    have hr := items_self d l w is (fun j hj => h j (by simp [hj]))
    simp only [Op.eqItems, Sem.run_bind, hp, Result.andThen_ok]
    rw [run_equalIn_int w d 3 .i64 .i64 _ _ Tryz.underlying3]
    simpa using hr
theorem same34 (l : List Nat) (h : l.length = 19) (w : World) : (Op.equalIn 10000 98 (.agg (ints l).toArray) (.agg (ints l).toArray)).run Tryz.prog w = .ok true w := by
  obtain ⟨i, hi, _⟩ := info_parts info3
  rw [run_equalIn_array w 9999 _ _ Tryz.underlying98 hi, show Tryz.prog.cellsOf 3 = 1 from by kernel_rfl]
  exact items_self 9998 l w _ (fun i hi => by rw [h]; simpa using hi)
end Go.Proofs.YtjlkjebmilfgoaaGreat
