/- Layer 14: the laws, over whatever the program's calls answer. -/
import Derived.Test.YtmdcnkcbieifpaaDoorFdR
namespace Go.Proofs.YtmdcnkcbieifpaaDoor
open Go.RowKit

/-- Three numbers a row. -/
def trips : List (Int × Int × Int) → List Value
  | [] => []
  | p :: r => .int .i64 p.1 :: .int .i64 p.2.1 :: .int .i64 p.2.2 :: trips r
/-- What the law makes of a table: none, if its ranges don't rise; else how much more it says. -/
def scanT (c : Int) : List (Int × Int × Int) → Int → Int → Option Int
  | [], _, more => some more
  | p :: r, last, more => if p.1 ≤ last ∨ p.2.1 < p.1 ∨ p.2.2 = 0 then none else scanT c r p.2.1 (if p.1 ≤ c ∧ c ≤ p.2.1 then p.2.2 else more)
structure FdC (G : World → Prop) : Prop where
  keep : ∀ w w', G w → Only (fun _ => False) w w' → G w'
  fold : ∀ l w, G w → l.length ≤ 1000 → Calls Tryd.prog 7 #[.string (tx l)] w fun e w' => e = .returned (.string (tx (foldF l))) ∧ Only (fun _ => False) w w'
  small : ∀ (c : Int) w, G w → -9223372036854775808 ≤ c → c ≤ 9223372036854775807 → Calls Tryd.prog 10 #[.int .i64 c] w fun e w' => e = .returned (.int .i64 (smallI c)) ∧ Only (fun _ => False) w w'
  alike : ∀ x y w, G w → x.length ≤ 1000 → y.length ≤ 1000 → Calls Tryd.prog 9 #[.string (tx x), .string (tx y)] w fun e w' => e = .returned (.bool (foldF x == foldF y)) ∧ Only (fun _ => False) w w'
  table : ∀ w, G w → Calls Tryd.prog 12 #[] w fun e w' => (∃ B A n c ps, e = .returned (.slice A n c) ∧ See w' B A (trips ps) ∧ ps.length = n ∧ 0 < n ∧ n ≤ 1000 ∧ (∀ p ∈ ps, 0 ≤ p.1 ∧ p.1 ≤ 2000000 ∧ 0 ≤ p.2.1 ∧ p.2.1 ≤ 2000000 ∧ 0 ≤ p.2.2 ∧ p.2.2 ≤ 2000000) ∧ ∀ x, scanT x ps (-1) 0 = some (smallI x - x)) ∧ Only (fun _ => False) w w'
variable {G : World → Prop}

set_option maxRecDepth 100000 in
set_option maxHeartbeats 8000000 in
theorem awake14 (C : FdC G) (w : World) (hg : G w) : Calls Tryd.prog 6 #[] w fun e w' => e = .returned (.bool true) ∧ Only (fun _ => False) w w' := by
  have HK : Hid (∀ w', Only (fun _ => False) w w' → G w') := Lib.hid fun w' k => C.keep w w' hg k
  have H1 := Lib.hid (C.fold [65, 195, 169, 47, 195, 137] w hg (by decide))
  rw [show foldF [65, 195, 169, 47, 195, 137] = [97, 195, 169, 47, 195, 169] by decide +kernel] at H1
  have H2 : Hid (∀ w1, G w1 → Calls Tryd.prog 10 #[.int .i64 90] w1 fun e w' => e = .returned (.int .i64 122) ∧ Only (fun _ => False) w1 w') := Lib.hid fun w1 h => by
    have := C.small 90 w1 h (by decide) (by decide)
    rw [show smallI 90 = 122 by decide] at this
    exact this
  have H3 : Hid (∀ w1, G w1 → Calls Tryd.prog 9 #[.string ⟨#[65, 66]⟩, .string ⟨#[97, 98]⟩] w1 fun e w' => e = .returned (.bool true) ∧ Only (fun _ => False) w1 w') := Lib.hid fun w1 h => by
    have := C.alike [65, 66] [97, 98] w1 h (by decide) (by decide)
    rw [show (foldF [65, 66] == foldF [97, 98]) = true by decide +kernel] at this
    exact this
  have H4 : Hid (∀ w1, G w1 → Calls Tryd.prog 9 #[.string ⟨#[97]⟩, .string ⟨#[98]⟩] w1 fun e w' => e = .returned (.bool false) ∧ Only (fun _ => False) w1 w') := Lib.hid fun w1 h => by
    have := C.alike [97] [98] w1 h (by decide) (by decide)
    rw [show (foldF [97] == foldF [98]) = false by decide +kernel] at this
    exact this
  have H5 : Hid (∀ w1, G w1 → Calls Tryd.prog 12 #[] w1 fun e w' => (∃ A n c, e = .returned (.slice A n c) ∧ 0 < n ∧ n ≤ 1000) ∧ Only (fun _ => False) w1 w') := Lib.hid fun w1 h => (C.table w1 h).mono fun e w' ⟨⟨_, A, n, c, _, h1, _, _, h2, h3, _⟩, h4⟩ => ⟨⟨A, n, c, h1, h2, h3⟩, h4⟩
  clear hg
  have H1' : Hid (Calls Tryd.prog 7 #[.string ⟨#[65, 195, 169, 47, 195, 137]⟩] w fun e w' => e = .returned (.string ⟨#[97, 195, 169, 47, 195, 169]⟩) ∧ Only (fun _ => False) w w') := H1
  clear H1
  go_enter Tryd.func6, Tryd.ntmps6
  go_wp2_with fail
  refine H1'.out.mono ?_
  rintro e w1 ⟨rfl, o1⟩
  have O1 := Lib.hid o1
  clear o1 H1'
  go_wp2_with fail
  refine (H2.out _ (HK.out _ O1.out)).mono ?_
  rintro e w2 ⟨rfl, o2⟩
  have O2 := Lib.hid (O1.out.trans o2)
  clear o2 H2 O1
  go_wp2_with fail
  refine (H3.out _ (HK.out _ O2.out)).mono ?_
  rintro e w3 ⟨rfl, o3⟩
  have O3 := Lib.hid (O2.out.trans o3)
  clear o3 H3 O2
  go_wp2_with fail
  refine (H4.out _ (HK.out _ O3.out)).mono ?_
  rintro e w4 ⟨rfl, o4⟩
  have O4 := Lib.hid (O3.out.trans o4)
  clear o4 H4 O3
  go_wp2_with fail
  refine (H5.out _ (HK.out _ O4.out)).mono ?_
  rintro e w5 ⟨⟨A, n, c, rfl, hn, hn2⟩, o5⟩
  have O5 := Lib.hid (O4.out.trans o5)
  have hn3 : (0 : Int) < (n : Int) := by omega
  clear o5 H5 O4
  go_wp2
  go_ret
  exact ⟨rfl, O5.out⟩

set_option maxHeartbeats 8000000 in
theorem foldTextsWalk (C : FdC G) (s : ByteArray) (w : World) (hg : G w) : Calls Tryd.prog 3 #[.string s] w fun e w' => e = .returned (.bool true) ∧ Only (fun _ => False) w w' := by
  obtain ⟨l, rfl⟩ : ∃ l, s = tx l := ⟨s.data.toList, rfl⟩
  have hz : (tx l).size = l.length := tx_size l
  have HAW := Lib.hid (awake14 C w hg)
  have HK : Hid (∀ w', Only (fun _ => False) w w' → G w') := Lib.hid fun w' k => C.keep w w' hg k
  clear hg
  obtain ⟨N, hN⟩ : ∃ N, l.length = N := ⟨_, rfl⟩
  rw [hN] at hz
  by_cases h1 : 200 < N
  · have h2 : (200 : Int) < (N : Int) := by omega
    clear hN
    go_enter Tryd.func3, Tryd.ntmps3
    go_wp2_with fail
    refine HAW.out.mono ?_
    rintro e w1 ⟨rfl, o1⟩
    have O1 := Lib.hid o1
    clear o1
    go_wp2
    go_ret
    exact ⟨rfl, O1.out⟩
  · have h2 : ¬ (200 : Int) < (N : Int) := by omega
    have hF := fold_length l
    have H1 : Hid (∀ w1, G w1 → _) := Lib.hid fun w1 h => C.fold l w1 h (by omega)
    have H2 := Lib.hid fun w1 => rfold l w1 (by omega)
    have H3 : Hid (∀ w1, G w1 → _) := Lib.hid fun w1 h => C.fold (foldF l) w1 h (by omega)
    have H4 : Hid (∀ w1, G w1 → _) := Lib.hid fun w1 h => C.alike l (foldF l) w1 h (by omega) (by omega)
    rw [fold_fold] at H3 H4
    rw [beq_self_eq_true] at H4
    have t1 := tx_toList (foldF l)
    generalize foldF l = T at *
    clear hF hN
    go_enter Tryd.func3, Tryd.ntmps3
    go_wp2_with fail
    refine HAW.out.mono ?_
    rintro e w1 ⟨rfl, o1⟩
    have O1 := Lib.hid o1
    clear o1 HAW
    go_wp2_with fail
    refine (H1.out _ (HK.out _ O1.out)).mono ?_
    rintro e w2 ⟨rfl, o2⟩
    have O2 := Lib.hid (O1.out.trans o2)
    clear o2 O1 H1
    go_wp2_with fail
    refine (H2.out _).mono ?_
    rintro e w3 ⟨rfl, o3⟩
    have O3 := Lib.hid (O2.out.trans o3)
    clear o3 O2 H2
    go_wp2_with fail
    refine (H3.out _ (HK.out _ O3.out)).mono ?_
    rintro e w4 ⟨rfl, o4⟩
    have O4 := Lib.hid (O3.out.trans o4)
    clear o4 O3 H3
    go_wp2_with fail
    refine (H4.out _ (HK.out _ O4.out)).mono ?_
    rintro e w5 ⟨rfl, o5⟩
    have O5 := Lib.hid (O4.out.trans o5)
    clear o5 O4 H4
    go_wp2
    go_ret
    exact ⟨rfl, O5.out⟩

set_option maxHeartbeats 8000000 in
theorem foldJoinedWalk (C : FdC G) (s s2 : ByteArray) (w : World) (hg : G w) : Calls Tryd.prog 5 #[.string s, .string s2] w fun e w' => e = .returned (.bool true) ∧ Only (fun _ => False) w w' := by
  obtain ⟨a, rfl⟩ : ∃ l, s = tx l := ⟨s.data.toList, rfl⟩
  obtain ⟨b, rfl⟩ : ∃ l, s2 = tx l := ⟨s2.data.toList, rfl⟩
  have hz : (tx a).size = a.length := tx_size a
  have hz2 : (tx b).size = b.length := tx_size b
  have HAW := Lib.hid (awake14 C w hg)
  have HK : Hid (∀ w', Only (fun _ => False) w w' → G w') := Lib.hid fun w' k => C.keep w w' hg k
  clear hg
  obtain ⟨N, hN⟩ : ∃ N, a.length = N := ⟨_, rfl⟩
  obtain ⟨M, hM⟩ : ∃ M, b.length = M := ⟨_, rfl⟩
  rw [hN] at hz
  rw [hM] at hz2
  by_cases h1 : 100 < N
  · have k1 : decide ((100 : Int) < (N : Int)) = true := decide_eq_true (by omega)
    clear hN hM
    go_enter Tryd.func5, Tryd.ntmps5
    go_wp2_with fail
    refine HAW.out.mono ?_
    rintro e w1 ⟨rfl, o1⟩
    have O1 := Lib.hid o1
    clear o1
    go_wp2
    go_ret
    exact ⟨rfl, O1.out⟩
  have k1 : decide ((100 : Int) < (N : Int)) = false := decide_eq_false (by omega)
  by_cases h2 : 100 < M
  · have k2 : decide ((100 : Int) < (M : Int)) = true := decide_eq_true (by omega)
    clear hN hM
    go_enter Tryd.func5, Tryd.ntmps5
    go_wp2_with fail
    refine HAW.out.mono ?_
    rintro e w1 ⟨rfl, o1⟩
    have O1 := Lib.hid o1
    clear o1
    go_wp2
    go_ret
    exact ⟨rfl, O1.out⟩
  have k2 : decide ((100 : Int) < (M : Int)) = false := decide_eq_false (by omega)
  have hFa := fold_length a
  have hFb := fold_length b
  have H1 : Hid (∀ w1, G w1 → _) := Lib.hid fun w1 h => C.alike a b w1 h (by omega) (by omega)
  have H2 := Lib.hid fun w1 => rfold a w1 (by omega)
  have H3 := Lib.hid fun w1 => rfold b w1 (by omega)
  have H4 : Hid (∀ w1, G w1 → _) := Lib.hid fun w1 h => C.fold b w1 h (by omega)
  have H5 : Hid (∀ w1, G w1 → _) := Lib.hid fun w1 h => C.fold a w1 h (by omega)
  have H6 : Hid (∀ w1, G w1 → _) := Lib.hid fun w1 h => C.alike (b ++ 47 :: a) (foldF b ++ 47 :: foldF a) w1 h (by simp only [List.length_append, List.length_cons]; omega) (by simp only [List.length_append, List.length_cons]; omega)
  rw [show (foldF (b ++ 47 :: a) == foldF (foldF b ++ 47 :: foldF a)) = true by
    rw [beq_iff_eq]
    exact fold_alike b a] at H6
  have h47 : (⟨#[47]⟩ : ByteArray) = tx [47] := rfl
  have s1 := add_tx (P := Tryd.prog) b [47] (by omega) (by decide)
  have s2 := add_tx (P := Tryd.prog) (b ++ [47]) a (by simp only [List.length_append, List.length_cons, List.length_nil]; omega) (by omega)
  have s3 := add_tx (P := Tryd.prog) (foldF b) [47] (by omega) (by decide)
  have s4 := add_tx (P := Tryd.prog) (foldF b ++ [47]) (foldF a) (by simp only [List.length_append, List.length_cons, List.length_nil]; omega) (by omega)
  have t1 := tx_toList (foldF a)
  have t2 := tx_toList (foldF b)
  generalize foldF a = A at *
  generalize foldF b = B at *
  obtain ⟨E, hE⟩ : ∃ E, (A == B) = E := ⟨_, rfl⟩
  have q1 : (E == E) = true := by cases E <;> rfl
  rw [hE] at H1
  clear hFa hFb hN hM
  go_enter Tryd.func5, Tryd.ntmps5
  go_wp2_with fail
  refine HAW.out.mono ?_
  rintro e w1 ⟨rfl, o1⟩
  have O1 := Lib.hid o1
  clear o1 HAW
  go_wp2_with fail
  refine (H1.out _ (HK.out _ O1.out)).mono ?_
  rintro e w2 ⟨rfl, o2⟩
  have O2 := Lib.hid (O1.out.trans o2)
  clear o2 O1 H1
  go_wp2_with fail
  refine (H2.out _).mono ?_
  rintro e w3 ⟨rfl, o3⟩
  have O3 := Lib.hid (O2.out.trans o3)
  clear o3 O2 H2
  go_wp2_with fail
  refine (H3.out _).mono ?_
  rintro e w4 ⟨rfl, o4⟩
  have O4 := Lib.hid (O3.out.trans o4)
  clear o4 O3 H3
  go_wp2_with fail
  refine (H4.out _ (HK.out _ O4.out)).mono ?_
  rintro e w5 ⟨rfl, o5⟩
  have O5 := Lib.hid (O4.out.trans o5)
  clear o5 O4 H4
  go_wp2_with fail
  refine (H5.out _ (HK.out _ O5.out)).mono ?_
  rintro e w6 ⟨rfl, o6⟩
  have O6 := Lib.hid (O5.out.trans o6)
  clear o6 O5 H5
  go_wp2_with fail
  refine (H6.out _ (HK.out _ O6.out)).mono ?_
  rintro e w7 ⟨rfl, o7⟩
  have O7 := Lib.hid (O6.out.trans o7)
  clear o7 O6 H6
  go_wp2
  go_ret
  exact ⟨rfl, O7.out⟩
end Go.Proofs.YtmdcnkcbieifpaaDoor
