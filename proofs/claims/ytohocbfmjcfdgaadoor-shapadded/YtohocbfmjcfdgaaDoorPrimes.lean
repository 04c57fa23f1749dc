/- Layer 4: the document's primes and their roots: the program's tables. -/
import Derived.Test.YtohocbfmjcfdgaaDoorRoot
namespace Go.Proofs.YtohocbfmjcfdgaaDoor
open Go.RowKit

def parted (k : Nat) (l : List Nat) : Bool := l.any fun q => (k + 2) % q == 0
theorem parted_more (k i : Nat) (l : List Nat) (h : i < l.length) : parted k (l.take (i + 1)) = (parted k (l.take i) || ((k + 2) % (l.getD i 0) == 0)) := by
  unfold parted
  rw [List.take_add_one, List.any_append, List.getElem?_eq_getElem h, List.getD_eq_getElem?_getD, List.getElem?_eq_getElem h]
  simp
theorem sieve_next (k : Nat) : sieve (k + 1) = if parted k (sieve k) = true then sieve k else sieve k ++ [k + 2] := rfl
def PrimesPost (w : World) (N num : Nat) (e : Ending) (w' : World) : Prop := ∃ (A : Option Addr) (c : Nat), e = .returned (.slice A num c) ∧ Made 24 w A num c (digs (sieve N)) w'

set_option maxHeartbeats 1000000 in
theorem rprimes (N num : Nat) (w : World) (hN : N ≤ 1000) (hlen : (sieve N).length = num) (hless : ∀ k, k < N → (sieve k).length < num) : Calls Tryd.prog 16 #[.int .i64 num] w (PrimesPost w N num) := by
  have hnum : num ≤ 1000 := by have := sieve_length N; omega
  have HLEN := Lib.hid hlen
  have HLESS := Lib.hid hless
  clear hlen hless
  go_enter Tryd.func16, Tryd.ntmps16
  go_wp2_with fail
  go_loopg [3, 4] N (fun gk v vp wx => ∃ (k m P c : Nat) (A : Option Addr), v = .slice A m c ∧ vp = .int .u64 P ∧ P = k + 2 ∧ (sieve k).length = m ∧ k + gk ≤ N ∧ N ≤ k + gk ∧ Made 24 w A m c (digs (sieve k)) wx)
  case atStart => exact ⟨0, 0, 2, 0, none, rfl, rfl, rfl, rfl, by omega, by omega, Row.nil 24 w, Only.refl _ w, by rintro j ⟨ad, e, _⟩; cases e⟩
  case round =>
    obtain ⟨k, m, P, c, A, rfl, rfl, hP, hm, hk, hk2, hM⟩ := hrel
    have hsome := sieve_some k
    have hnx := sieve_next k
    have hml := sieve_length k
    by_cases hlt : k < N
    · have hmn := HLESS.out k hlt
      rw [hm] at hmn hml
      have d1 : decide ((m : Int) < (num : Int)) = true := by simp; omega
      obtain ⟨S, hS⟩ : ∃ S, sieve k = S := ⟨_, rfl⟩
      rw [hS] at hsome hnx hm hM
      have HM := Lib.hid hM
      have HP := Lib.hid hP
      have HNX := Lib.hid hnx
      have HS := Lib.hid hS
      have hPl : P ≤ 1002 := by omega
      clear hM hP hnx hS
      go_wp2_with fail
      go_loopg [5, 6] m (fun gi vb vi wx => ∃ i : Nat, vi = .int .i64 i ∧ vb = .bool (!parted k (S.take i)) ∧ i + gi ≤ m ∧ m ≤ i + gi ∧ Made 24 w A m c (digs S) wx)
      case atStart => exact ⟨0, rfl, rfl, by omega, by omega, HM.out⟩
      case round =>
        obtain ⟨i, rfl, rfl, hi, hi2, hM⟩ := hrel
        clear HM
        by_cases hil : i < m
        · have hmore := parted_more k i S (by omega)
          rw [← HP.out] at hmore
          obtain ⟨ga, rfl, f3, _⟩ := hM.1.cell (digs_at S i (by omega))
          have hq2 : 2 ≤ S.getD i 0 := by
            rw [List.getD_eq_getElem?_getD, List.getElem?_eq_getElem (by omega)]
            exact (hsome _ (List.getElem_mem _)).1
          have hq3 : S.getD i 0 ≤ 1001 := by
            rw [List.getD_eq_getElem?_getD, List.getElem?_eq_getElem (by omega)]
            have := (hsome _ (List.getElem_mem (by omega : i < S.length))).2
            simp
            omega
          obtain ⟨q, hq⟩ : ∃ q, S.getD i 0 = q := ⟨_, rfl⟩
          rw [hq] at hmore f3 hq2 hq3
          obtain ⟨R, hR⟩ : ∃ R, P % q = R := ⟨_, rfl⟩
          have t1 : (P : Int) % (q : Int) = (R : Int) := by rw [← hR]; simp
          have t2 : (P : Int).tmod (q : Int) = (R : Int) := by rw [Int.tmod_eq_emod_of_nonneg (by omega)]; exact t1
          rw [hR] at hmore
          have HM := Lib.hid hM
          clear hM hq hR
          by_cases hR0 : R = 0
          · subst hR0
            have HMORE := Lib.hid hmore
            clear hmore
            go_wp2_with fail
            go_roundg (gk - 1)
            case measure => omega
            case rel => exact ⟨i + 1, by go_num, by rw [HMORE.out]; simp, by omega, by omega, HM.out⟩
          · have hb : (R == 0) = false := by simp [hR0]
            rw [hb, Bool.or_false] at hmore
            have HMORE := Lib.hid hmore
            clear hmore hb
            go_wp2_with fail
            go_roundg (gk - 1)
            case measure => omega
            case rel => exact ⟨i + 1, by go_num, by rw [HMORE.out], by omega, by omega, HM.out⟩
        · obtain rfl : i = m := by omega
          have htk : S.take i = S := List.take_of_length_le (by omega)
          rw [htk]
          have hnx := HNX.out
          have HM := Lib.hid hM
          clear hM htk HNX
          by_cases hpd : parted k S = true
          · rw [if_pos hpd] at hnx
            rw [hpd]
            have HNX := Lib.hid hnx
            clear hnx hpd
            go_wp2_with fail
            go_roundg (N - (k + 1))
            case measure => omega
            case rel => exact ⟨k + 1, i, P + 1, c, A, rfl, by go_num, by have := HP.out; omega, by rw [HNX.out]; exact hm, by omega, by omega, by rw [HNX.out]; exact HM.out⟩
          · have hpf : parted k S = false := by simpa using hpd
            rw [if_neg hpd] at hnx
            rw [hpf]
            have HNX := Lib.hid hnx
            clear hnx hpd hpf
            go_wp2_with (at_builtin
                         refine wpList_append_row rfl (.tmp 27) (.tmp 29) 37 37 24 rfl Tryd.underlying37 info24 A i c 1 _ [.int .u64 (P : Nat)] (.slice (some ⟨wr.heap.size, 0, none⟩) 1 1) rfl rfl (HM.out.1.alloc _) rfl (Src.oneInt Tryd.underlying37 wr .u64 (P : Nat) 1 24) (by omega) (by omega) ?_
                         intro A2 c2 w2 hrow2 honly2 hlies2
                         have HM2 := Lib.hid (HM.out.append hrow2 honly2 hlies2)
                         clear hrow2 honly2 hlies2)
            go_roundg (N - (k + 1))
            case measure => omega
            case rel =>
              refine ⟨k + 1, i + 1, P + 1, c2, A2, rfl, by go_num, by have := HP.out; omega, by rw [HNX.out, List.length_append, hm]; rfl, by omega, by omega, ?_⟩
              have e : digs (S ++ [k + 2]) = digs S ++ [.int .u64 (P : Nat)] := by rw [HP.out]; simp [digs]
              rw [HNX.out, e]
              exact HM2.out
    · obtain rfl : k = N := by omega
      obtain rfl : num = m := by have := HLEN.out; omega
      have HM := Lib.hid hM
      clear hM hnx hP
      go_wp2
      go_ret
      exact ⟨_, _, rfl, HM.out⟩

theorem info33 : (Tryd.prog.info? 33).map (fun i => (i.zero, i.size, i.bytes)) = some (some (.int .u32 0), 1, 4) := by kernel_rfl
def RootsPost (w : World) (l : List Nat) (e : Ending) (w' : World) : Prop := ∃ (A : Option Addr) (c : Nat), e = .returned (.slice A l.length c) ∧ Made 33 w A l.length c (nums l) w'

set_option maxHeartbeats 1000000 in
theorem rroots (N num pw : Nat) (w : World) (hN : N ≤ 1000) (hlen : (sieve N).length = num) (hless : ∀ k, k < N → (sieve k).length < num) (h1 : 1 ≤ pw) (h3 : pw ≤ 3) :
    Calls Tryd.prog 11 #[.int .i64 num, .int .i64 pw] w (RootsPost w ((sieve N).map (rootOf pw))) := by
  have hnum : num ≤ 1000 := by have := sieve_length N; omega
  have C := rprimes N num w hN hlen hless
  have hsome := sieve_some N
  obtain ⟨S, hS⟩ : ∃ S, sieve N = S := ⟨_, rfl⟩
  unfold PrimesPost at C
  rw [hS] at C hlen hsome ⊢
  have HC := Lib.hid C
  clear C hless hS
  go_enter Tryd.func11, Tryd.ntmps11
  go_wp2_with fail
  refine HC.out.mono ?_
  rintro e w1 ⟨A1, c1, rfl, hM1⟩
  have HM1 := Lib.hid hM1
  clear hM1 HC
  go_wp2_with fail
  go_loopg [6, 7] num (fun gk v vi wx => ∃ (i c : Nat) (A : Option Addr), v = .slice A i c ∧ vi = .int .i64 i ∧ i + gk ≤ num ∧ num ≤ i + gk ∧ Made 33 w1 A i c (nums ((S.take i).map (rootOf pw))) wx)
  case atStart => exact ⟨0, 0, none, rfl, rfl, by omega, by omega, Row.nil 33 w1, Only.refl _ w1, by rintro j ⟨ad, e, _⟩; cases e⟩
  case round =>
    obtain ⟨i, c, A, rfl, rfl, hk, hk2, hM⟩ := hrel
    by_cases hlt : i < num
    · obtain ⟨ga, rfl, f3, _⟩ := (HM1.out.1.stay hM.2.1).cell (digs_at S i (by omega))
      have hmore : (S.take (i + 1)).map (rootOf pw) = (S.take i).map (rootOf pw) ++ [rootOf pw (S.getD i 0)] := by
        rw [List.take_add_one, List.map_append, List.getElem?_eq_getElem (by omega), List.getD_eq_getElem?_getD, List.getElem?_eq_getElem (by omega)]
        rfl
      have hq3 : S.getD i 0 ≤ 1001 := by
        rw [List.getD_eq_getElem?_getD, List.getElem?_eq_getElem (by omega)]
        have := (hsome _ (List.getElem_mem (by omega : i < S.length))).2
        simp
        omega
      obtain ⟨q, hq⟩ : ∃ q, S.getD i 0 = q := ⟨_, rfl⟩
      rw [hq] at hmore f3 hq3
      have C := rroot q pw wr (by omega) h1 h3
      have HC := Lib.hid C
      have HM := Lib.hid hM
      have HMORE := Lib.hid hmore
      clear C hM hmore hq
      go_wp2_with fail
      refine HC.out.mono ?_
      rintro e w2 ⟨rfl, hO2⟩
      have HM2 : Hid (Made 33 w1 A i c (nums ((S.take i).map (rootOf pw))) w2) := Lib.hid ⟨HM.out.1.stay hO2, HM.out.2.1.trans hO2, HM.out.2.2⟩
      clear hO2 HM HC
      obtain ⟨R, hR⟩ : ∃ R, rootOf pw q = R := ⟨_, rfl⟩
      rw [hR] at HMORE ⊢
      clear hR
      go_wp2_with (at_builtin
                   refine wpList_append_row rfl (.tmp 15) (.tmp 22) 30 30 33 rfl Tryd.underlying30 info33 A i c 1 _ [.int .u32 (R : Nat)] (.slice (some ⟨w2.heap.size, 0, none⟩) 1 1) rfl rfl (HM2.out.1.alloc _) rfl (Src.oneInt Tryd.underlying30 w2 .u32 (R : Nat) 1 33) (by omega) (by omega) ?_
                   intro A3 c3 w3 hrow3 honly3 hlies3
                   have HM3 := Lib.hid (HM2.out.append hrow3 honly3 hlies3)
                   clear hrow3 honly3 hlies3)
      go_roundg (gk - 1)
      case measure => omega
      case rel =>
        refine ⟨i + 1, c3, A3, rfl, by go_num, by omega, by omega, ?_⟩
        have e : nums ((S.take i).map (rootOf pw) ++ [R]) = nums ((S.take i).map (rootOf pw)) ++ [.int .u32 (R : Nat)] := by simp [nums]
        rw [HMORE.out, e]
        exact HM3.out
    · obtain rfl : i = num := by omega
      have htk : S.take i = S := List.take_of_length_le (by omega)
      rw [htk] at hM
      have hml : (S.map (rootOf pw)).length = i := by simp; omega
      have HM := Lib.hid hM
      have HML := Lib.hid hml
      clear hM hml htk
      go_wp2
      go_ret
      refine ⟨A, c, by rw [HML.out]; rfl, ?_⟩
      rw [HML.out]
      exact ⟨HM.out.1, HM1.out.2.1.trans HM.out.2.1, fun j hj => Nat.le_trans HM1.out.2.1.size (HM.out.2.2 j hj)⟩

/-- The document's first numbers, and its numbers of the rounds. -/
theorem roots8 (w : World) : Calls Tryd.prog 11 #[.int .i64 8, .int .i64 2] w (RootsPost w first.list) := by
  have h := rroots 18 8 2 w (by decide) (by kernel_rfl) (fun k hk => by simpa using List.all_eq_true.1 sieve_short k (List.mem_range.2 hk)) (by decide) (by decide)
  rw [primes8] at h
  exact h
theorem roots64 (w : World) : Calls Tryd.prog 11 #[.int .i64 64, .int .i64 3] w (RootsPost w consts) := by
  have h := rroots 310 64 3 w (by decide) (by kernel_rfl) (fun k hk => by simpa using List.all_eq_true.1 sieve_long k (List.mem_range.2 hk)) (by decide) (by decide)
  rw [primes64] at h
  exact h
end Go.Proofs.YtohocbfmjcfdgaaDoor
