/- Layer 13: parts, parents, names, what is under what, the order: the laws. -/
import Derived.Test.YtaefhfpgehgkmaaDoorRtW
namespace Go.Proofs.YtaefhfpgehgkmaaDoor
open Go.RowKit

set_option maxHeartbeats 4000000 in
/-- Rows of the same texts are the same. -/
theorem ptexts (A A2 : Option Addr) (n c c2 B B2 : Nat) (ps : List (List UInt8)) (w : World) (h : See w B A (strs ps)) (h2 : See w B2 A2 (strs ps)) (hn : ps.length = n) (hb : n ≤ 1000000) :
    Calls Tryd.prog 13 #[.slice A n c, .slice A2 n c2] w fun e w' => e = .returned (.bool true) ∧ Only (fun _ => False) w w' := by
  have HSA := Lib.hid h
  have HSB := Lib.hid h2
  have HN := Lib.hid hn
  clear h h2 hn
  go_enter Tryd.func13, Tryd.ntmps13
  go_wp2_with fail
  go_loopg [13] n (fun gk u wx => ∃ i : Nat, u = .int .i64 i ∧ i + gk = n ∧ ∃ q, wx = w.drewN q)
  case atStart => exact ⟨0, rfl, by omega, 0, rfl⟩
  case round =>
    obtain ⟨i, rfl, hi, q, rfl⟩ := hrel
    by_cases l2 : i < n
    · have l4 : (i : Int) < (n : Int) := by omega
      obtain ⟨b1, o1, rfl, _, d1⟩ := HSA.out i _ (strs_at ps i (by rw [HN.out]; exact l2))
      obtain ⟨b2, o2, rfl, _, d2⟩ := HSB.out i _ (strs_at ps i (by rw [HN.out]; exact l2))
      generalize ps.getD i [] = p at d1 d2
      have t1 := tx_toList p
      go_upto_region 6 with fail
      go_quiet (fail)
      go_wp2_with fail
      go_roundg (gk - 1)
      case measure => omega
      case rel => exact ⟨i + 1, by go_num, by omega, _, rfl⟩
    · have l4 : ¬ (i : Int) < (n : Int) := by omega
      go_wp2
      go_ret
      exact ⟨rfl, (Only.refl _ w).drewN q⟩

set_option maxRecDepth 100000 in
set_option maxHeartbeats 8000000 in
theorem partsWalk (s s2 : ByteArray) (w : World) (hg : Gr w) : Calls Tryd.prog 4 #[.string s, .string s2] w fun e w' => e = .returned (.bool true) ∧ Only (fun _ => False) w w' := by
  obtain ⟨x, rfl⟩ : ∃ l, s = tx l := ⟨s.data.toList, rfl⟩
  obtain ⟨y, rfl⟩ : ∃ l, s2 = tx l := ⟨s2.data.toList, rfl⟩
  have hz : (tx x).size = x.length := tx_size x
  have hz2 : (tx y).size = y.length := tx_size y
  obtain ⟨n, hn⟩ : ∃ n, x.length = n := ⟨_, rfl⟩
  obtain ⟨m, hm⟩ : ∃ m, y.length = m := ⟨_, rfl⟩
  have HN := Lib.hid hn
  have HM := Lib.hid hm
  rw [hn] at hz
  rw [hm] at hz2
  clear hn hm
  have HGK : Hid (∀ w', Only (fun _ => False) w w' → Gr w') := Lib.hid fun w' k => hg.keep k
  have HAW := Lib.hid (awake13 w hg)
  clear hg
  go_enter Tryd.func4, Tryd.ntmps4
  go_wp2_with fail
  refine HAW.out.mono ?_
  rintro e w1 ⟨rfl, o1⟩
  have O1 := Lib.hid o1
  clear o1
  by_cases h1 : 200 < n
  · have k1 : decide ((200 : Int) < (n : Int)) = true := decide_eq_true (by omega)
    go_wp2
    go_ret
    exact ⟨rfl, O1.out⟩
  · have k1 : decide ((200 : Int) < (n : Int)) = false := decide_eq_false (by omega)
    by_cases h2 : 200 < m
    · have k2 : decide ((200 : Int) < (m : Int)) = true := decide_eq_true (by omega)
      go_wp2
      go_ret
      exact ⟨rfl, O1.out⟩
    · have k2 : decide ((200 : Int) < (m : Int)) = false := decide_eq_false (by omega)
      have hx : x.length ≤ 200 := by rw [HN.out]; omega
      have hy : y.length ≤ 200 := by rw [HM.out]; omega
      have A1 := Lib.hid fun w1 => pparent x w1 (by omega)
      have A2 := Lib.hid fun w1 => rparent x w1 (by omega)
      have A3 := Lib.hid fun w1 hg1 => pparts x w1 hg1 (by omega)
      have A4 : Hid (∀ w1, Calls Tryd.prog 15 #[.string (tx x)] w1 (StrsP w1 (partsF x))) := Lib.hid fun w1 => rparts (tx x) w1 (by rw [tx_size]; omega)
      have A5 := Lib.hid fun w1 => pbase x w1 (by omega)
      have A6 := Lib.hid fun w1 => rbase x w1 (by omega)
      have A7 := Lib.hid fun w1 => pdir x y w1 (by omega) (by omega)
      have A8 := Lib.hid fun w1 => rdir x y w1 (by omega) (by omega)
      have A9 := Lib.hid fun w1 => punder x y w1 (by omega) (by omega)
      have AA := Lib.hid fun w1 => runder x y w1 (by omega) (by omega)
      have AB := Lib.hid fun w1 => pcompare x y w1 (by omega) (by omega)
      have AC := Lib.hid fun w1 => rcompare x y w1 (by omega) (by omega)
      have hpf := parts_few x
      have hcb := cmp_vals (partsF x) (partsF y)
      generalize cmpF (partsF x) (partsF y) = C at AB AC hcb
      have hcb2 : -1 ≤ C ∧ C ≤ 1 := by omega
      generalize underF (partsF x) (partsF y) = U at A9 AA
      generalize partsF x = ps at A3 A4 hpf
      generalize (parentF x).1 = P at A1 A2
      generalize (parentF x).2 = D at A1 A2
      generalize baseF x = b at A5 A6
      generalize dirF x y = J at A7 A8
      obtain ⟨k, hk⟩ : ∃ k, ps.length = k := ⟨_, rfl⟩
      rw [HN.out, hk] at hpf
      have HK := Lib.hid hk
      clear hcb hx hy
      go_wp2_with fail
      refine (A1.out _).mono ?_
      rintro e w2 ⟨rfl, o⟩
      have O2 := Lib.hid (O1.out.trans o)
      clear o O1 A1
      go_wp2_with fail
      refine (A2.out _).mono ?_
      rintro e _ ⟨rfl, rfl⟩
      clear A2
      go_wp2_with fail
      refine (A3.out _ (HGK.out _ O2.out)).mono ?_
      rintro e w3 ⟨B1, c1, rfl, h3⟩
      have O3 := Lib.hid (O2.out.trans h3.2.1)
      have S3 := Lib.hid h3.1.see
      clear h3 O2 A3
      rw [hk]
      go_wp2_with fail
      refine (A4.out _).mono ?_
      rintro e w4 ⟨B2, c2, rfl, h4⟩
      have O4 := Lib.hid (O3.out.trans h4.2.1)
      have HT := Lib.hid (ptexts B1 B2 k c1 c2 _ _ ps w4 (S3.out.new h4.2.1) h4.1.see hk (by omega))
      clear h4 O3 A4 S3
      rw [hk]
      clear hk
      go_wp2_with fail
      refine HT.out.mono ?_
      rintro e w5 ⟨rfl, o⟩
      have O5 := Lib.hid (O4.out.trans o)
      clear o O4 HT
      go_wp2_with fail
      refine (A5.out _).mono ?_
      rintro e w6 ⟨rfl, o⟩
      have O6 := Lib.hid (O5.out.trans o)
      clear o O5 A5
      go_wp2_with fail
      refine (A6.out _).mono ?_
      rintro e _ ⟨rfl, rfl⟩
      clear A6
      go_wp2_with fail
      refine (A7.out _).mono ?_
      rintro e w7 ⟨rfl, o⟩
      have O7 := Lib.hid (O6.out.trans o)
      clear o O6 A7
      go_wp2_with fail
      refine (A8.out _).mono ?_
      rintro e _ ⟨rfl, rfl⟩
      clear A8
      go_wp2_with fail
      refine (A9.out _).mono ?_
      rintro e w8 ⟨rfl, o⟩
      have O8 := Lib.hid (O7.out.trans o)
      clear o O7 A9
      go_wp2_with fail
      refine (AA.out _).mono ?_
      rintro e w9 ⟨rfl, o⟩
      have O9 := Lib.hid (O8.out.trans o)
      clear o O8 AA
      go_wp2_with fail
      refine (AB.out _).mono ?_
      rintro e wa ⟨rfl, o⟩
      have Oa := Lib.hid (O9.out.trans o)
      clear o O9 AB
      go_wp2_with fail
      refine (AC.out _).mono ?_
      rintro e wb ⟨rfl, o⟩
      have Ob := Lib.hid (Oa.out.trans o)
      clear o Oa AC
      go_wp2
      go_ret
      exact ⟨rfl, Ob.out⟩

set_option maxRecDepth 100000 in
set_option maxHeartbeats 16000000 in
theorem orderWalk (s s2 s3 : ByteArray) (w : World) (hg : Gr w) : Calls Tryd.prog 5 #[.string s, .string s2, .string s3] w fun e w' => e = .returned (.bool true) ∧ Only (fun _ => False) w w' := by
  obtain ⟨x, rfl⟩ : ∃ l, s = tx l := ⟨s.data.toList, rfl⟩
  obtain ⟨y, rfl⟩ : ∃ l, s2 = tx l := ⟨s2.data.toList, rfl⟩
  obtain ⟨z, rfl⟩ : ∃ l, s3 = tx l := ⟨s3.data.toList, rfl⟩
  have hz : (tx x).size = x.length := tx_size x
  have hz2 : (tx y).size = y.length := tx_size y
  have hz3 : (tx z).size = z.length := tx_size z
  obtain ⟨n, hn⟩ : ∃ n, x.length = n := ⟨_, rfl⟩
  obtain ⟨m, hm⟩ : ∃ m, y.length = m := ⟨_, rfl⟩
  obtain ⟨k, hk⟩ : ∃ m, z.length = m := ⟨_, rfl⟩
  have HN := Lib.hid hn
  have HM := Lib.hid hm
  have HK := Lib.hid hk
  rw [hn] at hz
  rw [hm] at hz2
  rw [hk] at hz3
  clear hn hm hk
  have HGK : Hid (∀ w', Only (fun _ => False) w w' → Gr w') := Lib.hid fun w' k => hg.keep k
  have HAW := Lib.hid (awake13 w hg)
  clear hg
  go_enter Tryd.func5, Tryd.ntmps5
  go_wp2_with fail
  refine HAW.out.mono ?_
  rintro e w1 ⟨rfl, o1⟩
  have O1 := Lib.hid o1
  clear o1
  by_cases h1 : 100 < n
  · have k1 : decide ((100 : Int) < (n : Int)) = true := decide_eq_true (by omega)
    go_wp2
    go_ret
    exact ⟨rfl, O1.out⟩
  have k1 : decide ((100 : Int) < (n : Int)) = false := decide_eq_false (by omega)
  by_cases h2 : 100 < m
  · have k2 : decide ((100 : Int) < (m : Int)) = true := decide_eq_true (by omega)
    go_wp2
    go_ret
    exact ⟨rfl, O1.out⟩
  have k2 : decide ((100 : Int) < (m : Int)) = false := decide_eq_false (by omega)
  by_cases h3 : 100 < k
  · have k3 : decide ((100 : Int) < (k : Int)) = true := decide_eq_true (by omega)
    go_wp2
    go_ret
    exact ⟨rfl, O1.out⟩
  have k3 : decide ((100 : Int) < (k : Int)) = false := decide_eq_false (by omega)
  have hx : x.length ≤ 100 := by rw [HN.out]; omega
  have hy : y.length ≤ 100 := by rw [HM.out]; omega
  have hw : z.length ≤ 100 := by rw [HK.out]; omega
  have A1 := Lib.hid fun w1 => pcompare x y w1 (by omega) (by omega)
  have A2 := Lib.hid fun w1 => pcompare y z w1 (by omega) (by omega)
  have A3 := Lib.hid fun w1 => pcompare x z w1 (by omega) (by omega)
  have A4 := Lib.hid fun w1 => pcompare y x w1 (by omega) (by omega)
  have A5 := Lib.hid fun w1 => punder z x w1 (by omega) (by omega)
  have A6 := Lib.hid fun w1 => punder y x w1 (by omega) (by omega)
  have v1 := cmp_vals (partsF x) (partsF y)
  have v2 := cmp_vals (partsF y) (partsF z)
  have v3 := cmp_vals (partsF x) (partsF z)
  have an := cmp_anti (partsF y) (partsF x)
  have tr := cmp_trans (partsF x) (partsF y) (partsF z)
  have un := under_mid (partsF x) (partsF y) (partsF z)
  rw [an] at A4
  clear an hx hy hw h1 h2 h3
  generalize cmpF (partsF x) (partsF y) = X at *
  generalize cmpF (partsF y) (partsF z) = Y at *
  generalize cmpF (partsF x) (partsF z) = Z at *
  generalize underF (partsF z) (partsF x) = U at *
  generalize underF (partsF y) (partsF x) = V at *
  have HUN := Lib.hid un
  clear un
  have key : Hid (∀ wx, Only (fun _ => False) w wx → True) := Lib.hid fun _ _ => trivial
  rcases v1 with rfl | rfl | rfl <;> rcases v2 with rfl | rfl | rfl <;> rcases v3 with rfl | rfl | rfl <;> first
    | (exfalso; revert tr; decide)
    | (clear tr
       go_wp2_with fail
       refine (A1.out _).mono ?_
       rintro e w2 ⟨rfl, o⟩
       have O2 := Lib.hid (O1.out.trans o)
       clear o O1
       go_wp2_with fail
       refine (A2.out _).mono ?_
       rintro e w3 ⟨rfl, o⟩
       have O3 := Lib.hid (O2.out.trans o)
       clear o O2
       go_wp2_with fail
       refine (A3.out _).mono ?_
       rintro e w4 ⟨rfl, o⟩
       have O4 := Lib.hid (O3.out.trans o)
       clear o O3
       go_wp2_with fail
       refine (A4.out _).mono ?_
       rintro e w5 ⟨rfl, o⟩
       have O5 := Lib.hid (O4.out.trans o)
       clear o O4
       go_wp2_with fail
       refine (A5.out _).mono ?_
       rintro e w6 ⟨rfl, o⟩
       have O6 := Lib.hid (O5.out.trans o)
       clear o O5
       cases U with
       | false =>
         go_wp2
         go_ret
         exact ⟨rfl, O6.out⟩
       | true =>
         first
           | (go_wp2
              go_ret
              exact ⟨rfl, O6.out⟩)
           | (have hV := HUN.out rfl (by decide) (by decide)
              rw [hV] at A6
              go_wp2_with fail
              refine (A6.out _).mono ?_
              rintro e w7 ⟨rfl, o⟩
              have O7 := Lib.hid (O6.out.trans o)
              clear o O6
              go_wp2
              go_ret
              exact ⟨rfl, O7.out⟩))
end Go.Proofs.YtaefhfpgehgkmaaDoor
