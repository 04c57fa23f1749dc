/- Layer 11: rows trimmed; what changes nothing else. -/
import Derived.Test.YtjlkjebmilfgoaaM3
import Derived.Test.YtjlkjebmilfgoaaQLens
/- A cell that a call leaves as it is. -/
namespace Go.Proofs.Ytjlkjebmilfgoaa
open Go.RowKit
theorem Only.cell {S : Nat → Prop} {w w' : World} {a : Addr} {v : Value} (k : Only S w w') (h : w.cell? a = some v) (hs : ¬ S a.block) : w'.cell? a = some v := (World.cell?_of_block (k.block _ (cell_lt h) hs)).trans h
end Go.Proofs.Ytjlkjebmilfgoaa

/- Layer 11, the program: rows without the zeros at their end; the shortest lengths of counts. -/
namespace Go.Proofs.Ytjlkjebmilfgoaa
open Go.RowKit

/-- How many numbers stay. -/
def trimN (l : List Nat) (least : Nat) : Nat → Nat
  | 0 => 0
  | n + 1 => if least < n + 1 ∧ ln l n = 0 then trimN l least n else n + 1
theorem trimN_le (l : List Nat) (least : Nat) : ∀ n, trimN l least n ≤ n
  | 0 => Nat.le_refl _
  | n + 1 => by
    rw [trimN]
    split
    · exact Nat.le_trans (trimN_le l least n) (Nat.le_succ n)
    · exact Nat.le_refl _
theorem trimN_ge (l : List Nat) (least : Nat) : ∀ n, least ≤ n → least ≤ trimN l least n
  | 0, h => h
  | n + 1, h => by
    rw [trimN]
    split
    · exact trimN_ge l least n (by omega)
    · exact h
theorem trimN_zero (l : List Nat) (least : Nat) : ∀ n i, trimN l least n ≤ i → i < n → ln l i = 0
  | 0, i, _, h => by omega
  | n + 1, i, h1, h2 => by
    rw [trimN] at h1
    split at h1
    · rename_i h
      rcases Nat.lt_or_ge i n with h3 | h3
      · exact trimN_zero l least n i h1 h3
      · obtain rfl : i = n := by omega
        exact h.2
    · omega
def trimF (l : List Nat) (least : Nat) : List Nat := l.take (trimN l least l.length)
theorem trimF_length (l : List Nat) (least : Nat) : (trimF l least).length = trimN l least l.length := by
  unfold trimF
  rw [List.length_take]
  have := trimN_le l least l.length
  omega
theorem ln_take (l : List Nat) (m i : Nat) (h : i < m) : ln (l.take m) i = ln l i := by
  unfold ln
  rw [List.getD_eq_getElem?_getD, List.getD_eq_getElem?_getD, List.getElem?_take, if_pos h]
theorem ln_trimF (l : List Nat) (least i : Nat) : ln (trimF l least) i = ln l i := by
  by_cases h : i < trimN l least l.length
  · exact ln_take l _ i h
  · have h1 : ln (trimF l least) i = 0 := by
      unfold ln
      rw [List.getD_eq_getElem?_getD, List.getElem?_eq_none (by rw [trimF_length]; omega)]
      rfl
    rw [h1]
    rcases Nat.lt_or_ge i l.length with h2 | h2
    · exact (trimN_zero l least _ i (by omega) h2).symm
    · unfold ln
      rw [List.getD_eq_getElem?_getD, List.getElem?_eq_none h2]
      rfl

theorem Row.caps {e : TypeId} {w : World} {A : Option Addr} {n c : Nat} {vs : List Value} (h : Row e w A n c vs) : n ≤ c ∧ c ≤ 9223372036854775807 := by
  rcases h.2 with ⟨_, h1, h2, _⟩ | ⟨g, cur, m, _, _, h1, h2, _⟩
  · omega
  · unfold maxLen at h2
    omega
theorem See.less {w : World} {B : Nat} {A : Option Addr} {vs : List Value} (h : See w B A vs) (m : Nat) : See w B A (vs.take m) := by
  intro i v hv
  rw [List.getElem?_take] at hv
  split at hv
  · exact h i v hv
  · cases hv
theorem ints_take (l : List Nat) (m : Nat) : ints (l.take m) = (ints l).take m := by simp [ints, List.map_take]
set_option maxHeartbeats 1000000 in
theorem trimmed (b off n c B least : Nat) (l : List Nat) (w : World) (h : See w B (some ⟨b, off, none⟩) (ints l)) (hn : l.length = n) (_hb : n ≤ 1000) (_hl : least ≤ n) (hc : n ≤ c) (hc2 : c ≤ 9223372036854775807) :
    Calls Try.prog 32 #[.slice (some ⟨b, off, none⟩) n c, .int .i64 least] w fun e w' => e = .returned (.slice (some ⟨b, off, none⟩) (trimN l least n) c) ∧ w = w' := by
  have HS := Lib.hid h
  have HN := Lib.hid hn
  obtain ⟨R, hR⟩ : ∃ R, trimN l least n = R := ⟨_, rfl⟩
  have HR := Lib.hid hR
  rw [hR]
  clear h hn hR
  go_enter Try.func32, Try.ntmps32
  go_wp2_with fail
  go_loopg [5] n (fun gk i wx => ∃ k : Nat, i = .int .i64 k ∧ k ≤ gk ∧ k ≤ n ∧ Hid (trimN l least k = R) ∧ wx = w)
  case atStart => exact ⟨n, rfl, Nat.le_refl _, Nat.le_refl _, HR, rfl⟩
  case round =>
    clear HR
    obtain ⟨k, rfl, hk, hk2, HT, rfl⟩ := hrel
    by_cases hlt : least < k
    · obtain ⟨j, rfl⟩ : ∃ j, k = j + 1 := ⟨k - 1, by omega⟩
      obtain ⟨b', off', e1, _, hc0⟩ := HS.out j _ (ints_at l j (by rw [HN.out]; omega))
      obtain ⟨rfl, rfl⟩ : b = b' ∧ off = off' := by simpa using e1
      clear e1
      have ej : ((j + 1 : Nat) : Int) - 1 = (j : Int) := by omega
      have d0 : decide (((j + 1 : Nat) : Int) > (least : Int)) = true := by simp; omega
      have d1 : (least : Int) < ((j + 1 : Nat) : Int) := by omega
      obtain ⟨x, hx⟩ : ∃ x, ln l j = x := ⟨_, rfl⟩
      rw [hx] at hc0
      by_cases hx0 : x = 0
      · subst hx0
        have HT2 : Hid (trimN l least j = R) := Lib.hid (by have := HT.out; rw [trimN, if_pos ⟨hlt, hx⟩] at this; exact this)
        clear hx HT
        go_wp2_with fail
        go_roundg (gk - 1)
        case measure => omega
        case rel => exact ⟨j, by first | rfl | go_num, by omega, by omega, HT2, rfl⟩
      · have hRj : j + 1 = R := by have := HT.out; rw [trimN, if_neg (by rw [hx]; omega)] at this; exact this
        have hx1 : ¬ (x : Int) = 0 := by omega
        have hx2 : ((x : Int) == 0) = false := by simp; omega
        clear hx HT
        subst hRj
        go_wp2
        go_ret
        exact ⟨rfl, rfl⟩
    · have d1 : ¬ (least : Int) < (k : Int) := by omega
      have hRk : k = R := by
        have := HT.out
        cases k with
        | zero => exact this
        | succ j => rw [trimN, if_neg (by omega)] at this; exact this
      clear HT
      subst hRk
      go_wp2
      go_ret
      exact ⟨rfl, rfl⟩

set_option maxHeartbeats 1000000 in
theorem smax (A : Option Addr) (n c B M : Nat) (l : List Nat) (w : World) (h : See w B A (ints l)) (hn : l.length = n) (hb : n ≤ 1000) (h1 : 1 ≤ n) (hM : ∀ x ∈ l, x ≤ M) (_hM2 : M ≤ 1000000000) :
    Calls Try.prog 71 #[.slice A n c] w fun e w' => (∃ m : Nat, e = .returned (.int .i64 m) ∧ m ≤ M) ∧ w = w' := by
  have HS := Lib.hid h
  have HN := Lib.hid hn
  have HM : Hid (∀ i, i < n → ln l i ≤ M) := Lib.hid fun i hi => by
    refine hM _ ?_
    unfold ln
    rw [List.getD_eq_getElem?_getD, List.getElem?_eq_getElem (by omega)]
    exact List.getElem_mem _
  obtain ⟨b0, off0, rfl, _, c0⟩ := h 0 _ (ints_at l 0 (by omega))
  have hx0 := HM.out 0 (by omega)
  obtain ⟨x0, hx⟩ : ∃ x0, ln l 0 = x0 := ⟨_, rfl⟩
  rw [hx, Nat.add_zero] at c0
  rw [hx] at hx0
  have hn1 : ¬ (n : Int) < 1 := by omega
  clear h hn hx hM
  go_enter Try.func71, Try.ntmps71
  go_wp2_with fail
  go_loopg [3, 4] n (fun gk v i wx => ∃ k m : Nat, i = .int .i64 k ∧ v = .int .i64 m ∧ m ≤ M ∧ k + gk ≤ n + 1 ∧ n ≤ k + gk ∧ wx = w)
  case atStart => exact ⟨1, x0, rfl, rfl, by omega, by omega, by omega, rfl⟩
  case round =>
    clear c0
    obtain ⟨k, m, rfl, rfl, hm, hk, hk2, rfl⟩ := hrel
    by_cases hlt : k < n
    · obtain ⟨b', off', e1, _, hc0⟩ := HS.out k _ (ints_at l k (by rw [HN.out]; exact hlt))
      obtain ⟨rfl, rfl⟩ : b0 = b' ∧ off0 = off' := by simpa using e1
      clear e1
      have hxk := HM.out k hlt
      obtain ⟨x, hx⟩ : ∃ x, ln l k = x := ⟨_, rfl⟩
      rw [hx] at hc0 hxk
      obtain ⟨z, hz⟩ : ∃ z, max m x = z := ⟨_, rfl⟩
      have ez : max (m : Int) (x : Int) = (z : Int) := by omega
      have hzM : z ≤ M := by omega
      clear hx hz
      go_wp2_with fail
      go_roundg (gk - 1)
      case measure => omega
      case rel => exact ⟨k + 1, z, by go_num, rfl, hzM, by omega, by omega, rfl⟩
    · go_wp2
      go_ret
      exact ⟨⟨m, rfl, hm⟩, rfl⟩

set_option maxHeartbeats 1000000 in
theorem lowered (A : Option Addr) (n c B : Nat) (l : List Nat) (w : World) (h : See w B A (ints l)) (hn : l.length = n) (hb : n ≤ 1000) (h1 : 1 ≤ n) (hM : ∀ x ∈ l, x ≤ 1048576) :
    Calls Try.prog 48 #[.slice A n c] w (ClonePost w (ints l) n) := by
  have HC := Lib.hid (clone A n c B (ints l) w h (by rw [ints_length, hn]) (by omega) (ints_one l))
  have HX : Hid (∀ A2 c2 w2, Made 3 w A2 n c2 (ints l) w2 → Calls Try.prog 71 #[.slice A2 n c2] w2 fun e w' => (∃ m : Nat, e = .returned (.int .i64 m) ∧ m ≤ 1048576) ∧ w2 = w') := Lib.hid fun A2 c2 w2 hm =>
    smax A2 n c2 _ 1048576 l w2 hm.see hn hb h1 hM (by decide)
  clear h hn hM
  go_enter Try.func48, Try.ntmps48
  go_wp2_with fail
  refine HC.out.mono ?_
  rintro e w2 ⟨A2, c2, rfl, hm⟩
  have HM := Lib.hid hm
  have HX2 := Lib.hid (HX.out A2 c2 w2 hm)
  clear hm HC HX
  go_wp2_with fail
  go_loopg [] 0 (fun gk wx => wx = w2)
  case atStart => rfl
  case round =>
    subst hrel
    go_wp2_with fail
    refine HX2.out.mono ?_
    rintro e w3 ⟨⟨m, rfl, hm⟩, rfl⟩
    have hm2 : ¬ (1048576 : Int) < (m : Int) := by omega
    clear HX2
    go_wp2
    go_ret
    exact ⟨_, _, rfl, HM.out⟩

def ShortP (w : World) (l : List Nat) (n most : Nat) (e : Ending) (w' : World) : Prop := ∃ g, e = .returned (.slice (some ⟨g, 0, none⟩) n n) ∧ Made 3 w (some ⟨g, 0, none⟩) n n (ints (lens6 l most)) w'
set_option maxHeartbeats 1000000 in
theorem shortest (A : Option Addr) (n c B most : Nat) (l : List Nat) (w : World) (h : See w B A (ints l)) (hn : l.length = n) (hb : n ≤ 288) (h1 : 1 ≤ n) (hM : ∀ x ∈ l, x ≤ 1048576) (hm1 : 1 ≤ most) (hm15 : most ≤ 15) (hs : some_ l ≤ 2 ^ most) :
    Calls Try.prog 33 #[.slice A n c, .int .i64 most] w (ShortP w l n most) := by
  have HC := Lib.hid (lowered A n c B l w h hn (by omega) h1 hM)
  have HX : Hid (∀ A2 c2 w2, Made 3 w A2 n c2 (ints l) w2 → Calls Try.prog 47 #[.slice A2 n c2, .int .i64 most] w2 (LensPost w2 l n most)) := Lib.hid fun A2 c2 w2 hm =>
    lengths A2 n c2 most _ l w2 hm.see (Nat.le_refl _) hn hb hM hm1 hm15 hs
  clear h hn hM
  go_enter Try.func33, Try.ntmps33
  go_wp2_with fail
  refine HC.out.mono ?_
  rintro e w2 ⟨A2, c2, rfl, hm⟩
  have HM := Lib.hid hm
  have HX2 := Lib.hid (HX.out A2 c2 w2 hm)
  clear hm HC HX
  go_wp2_with fail
  refine HX2.out.mono ?_
  rintro e w3 ⟨g, rfl, hm3⟩
  have H3 := Lib.hid (hm3.later HM.out.2.1)
  clear hm3 HX2
  go_wp2
  go_ret
  exact ⟨g, rfl, H3.out⟩
end Go.Proofs.Ytjlkjebmilfgoaa
