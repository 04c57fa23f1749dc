/- Layer 5: the program's Codes; whether two rows of numbers are the same. -/
import Derived.Test.YtfobkknbhflnbaaRefCodes
namespace Go.Proofs.Ytfobkknbhflnbaa
open Go.RowKit

def CodesNo (w : World) (x : Nat) (e : Ending) (w' : World) : Prop := e = .returned (.tuple #[.slice none 0 0, .int .i64 x]) ∧ Only (fun _ => False) w w'
theorem codes_bad (A : Option Addr) (n c k x : Nat) (w : World) (h : Calls Try.prog 7 #[.slice A n c] w (CheckPost w k x)) (hx : x ≠ 0) :
    Calls Try.prog 9 #[.slice A n c] w (CodesNo w x) := by
  have hx2 : ¬ (x : Int) = 0 := by omega
  go_enter Try.func9, Try.ntmps9
  go_wp2_with fail
  refine h.mono ?_
  rintro e w' ⟨rfl, ho⟩
  have HO := Lib.hid ho
  clear ho h
  go_wp2
  go_ret2
  exact ⟨rfl, HO.out⟩

def CodesYes (w : World) (l : List Nat) (n : Nat) (e : Ending) (w' : World) : Prop := ∃ g, e = .returned (.tuple #[.slice (some ⟨g, 0, none⟩) n n, .int .i64 0]) ∧ Made 3 w (some ⟨g, 0, none⟩) n n (ints (cds l)) w'
theorem Made.later {e : TypeId} {w w1 w2 : World} {A : Option Addr} {n c : Nat} {vs : List Value} (h : Made e w1 A n c vs w2) (o : Only (fun _ => False) w w1) : Made e w A n c vs w2 :=
  ⟨h.1, o.trans h.2.1, fun j hj => Nat.le_trans o.size (h.2.2 j hj)⟩
theorem codes_yes (A : Option Addr) (n c B : Nat) (l : List Nat) (w : World) (h : See w B A (ints l)) (hn : l.length = n) (h288 : n ≤ 288) (hl : Low l) (hk : (kd l).2 = 0) :
    Calls Try.prog 9 #[.slice A n c] w (CodesYes w l n) := by
  have HC := Lib.hid (check_yes A n c B l w h hn h288 hl)
  have HS := Lib.hid h
  have HL := Lib.hid hl
  have HN := Lib.hid hn
  clear h hl hn
  rw [hk] at HC
  clear hk
  go_enter Try.func9, Try.ntmps9
  go_wp2_with fail
  refine HC.out.mono ?_
  rintro e w1 ⟨rfl, ho1⟩
  have HS1 := Lib.hid ((HS.out.new ho1).more (Nat.le_max_left B w1.heap.size))
  have HO1 := Lib.hid ho1
  clear HC ho1
  go_wp2_with fail
  refine (inOrder A n c _ l w1 HS1.out HN.out h288 HL.out).mono ?_
  rintro e w2 ⟨g, rfl, hm⟩
  have hs2 := HS1.out.new hm.2.1
  have HM := Lib.hid hm
  obtain ⟨m, hm2⟩ : ∃ m, st l 16 = m := ⟨_, rfl⟩
  have HM2 := Lib.hid hm2
  rw [hm2]
  clear hm2 hm
  go_wp2_with fail
  refine (numbers A _ n c m m (max (max B w1.heap.size) w2.heap.size) l w2 (hs2.more (Nat.le_max_left _ _)) (HM.out.see.more (Nat.le_max_right _ _)) HN.out h288 HL.out HM2.out).mono ?_
  rintro e w3 ⟨g3, rfl, hm3⟩
  have HM3 := Lib.hid hm3
  clear hm3
  go_wp2
  go_ret2
  exact ⟨g3, rfl, HM3.out.later (HO1.out.trans HM.out.2.1)⟩

set_option maxHeartbeats 1000000 in
/-- The same numbers. -/
theorem same (A A2 : Option Addr) (n c c2 B : Nat) (l : List Nat) (w : World) (h : See w B A (ints l)) (h2 : See w B A2 (ints l)) (hn : l.length = n) (h288 : n ≤ 288) :
    Calls Try.prog 11 #[.slice A n c, .slice A2 n c2] w fun e w' => e = .returned (.bool true) ∧ ∃ k, w' = w.drewN k := by
  have HS := Lib.hid h
  have HS2 := Lib.hid h2
  have HN := Lib.hid hn
  clear h h2 hn
  go_enter Try.func11, Try.ntmps11
  go_wp2_with fail
  go_loopg [13] n (fun gk i wx => ∃ k : Nat, i = .int .i64 k ∧ k + gk ≤ n ∧ n ≤ k + gk ∧ ∃ m, wx = w.drewN m)
  case atStart => exact ⟨0, rfl, by omega, by omega, 0, rfl⟩
  case round =>
    obtain ⟨k, rfl, hk, hk2, m, rfl⟩ := hrel
    by_cases hlt : k < n
    · obtain ⟨b, off, rfl, _, hc⟩ := HS.out k _ (ints_at l k (by rw [HN.out]; exact hlt))
      obtain ⟨b2, off2, rfl, _, hc2⟩ := HS2.out k _ (ints_at l k (by rw [HN.out]; exact hlt))
      obtain ⟨x, hx⟩ : ∃ x, ln l k = x := ⟨_, rfl⟩
      rw [hx] at hc hc2
      clear hx
      go_wp2_with fail
      go_quiet (fail)
      go_wp2_with fail
      go_roundg (gk - 1)
      case measure => omega
      case rel => exact ⟨k + 1, by go_num, by omega, by omega, _, rfl⟩
    · go_wp2
      go_ret
      exact ⟨rfl, m, rfl⟩
end Go.Proofs.Ytfobkknbhflnbaa
