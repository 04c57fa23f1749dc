/- Layer 16, the document: all texts of the rows, in order, each once. -/
import Derived.Test.YtmdfkchgklphlaaWvA
import Derived.BigQuiet
import Derived.Deep.RegionHeld3
namespace Go.Proofs.Ytmdfkchgklphlaa
open Go.RowKit

theorem strs_set (ps : List (List UInt8)) (i : Nat) (p : List UInt8) : (strs ps).set i (.string (tx p)) = strs (ps.set i p) := by simp [strs, List.map_set]
/-- A store into a row of the call's own. -/
theorem SMade.set {w wx : World} {A : Option Addr} {n c : Nat} {ps : List (List UInt8)} (h : SMade w A n c ps wx) {i : Nat} (hi : i < n) : ∃ g, A = some ⟨g, 0, none⟩ ∧ w.heap.size ≤ g ∧ (∃ v, wx.cell? ⟨g, i, none⟩ = some v) ∧ wx.frozen? ⟨g, i, none⟩ = false ∧
    ∀ p, SMade w A n c (ps.set i p) (wx.setCell ⟨g, i, none⟩ (.string (tx p))) := by
  obtain ⟨⟨h1, h2⟩, h3, h4⟩ := h
  rcases h2 with ⟨_, h0, _⟩ | ⟨g, cur, rfl, k1, k2, k3, k4, k5⟩
  · omega
  · have hg : w.heap.size ≤ g := h4 g ⟨_, rfl, rfl⟩
    rw [Nat.mul_one] at h1 k4 k5
    have hl : i < cur.size := by omega
    refine ⟨g, rfl, hg, ⟨cur[i], by simp [World.cell?, k1, hl]⟩, by simp [World.frozen?, k1], fun p => ⟨⟨by rw [Nat.mul_one, strs_length, List.length_set, ← strs_length]; exact h1, .inr ⟨g, cur.setIfInBounds i (.string (tx p)), rfl, ?_, k2, k3, by rw [Array.size_setIfInBounds, Nat.mul_one]; exact k4, ?_⟩⟩, h3.set (.inr hg) _, h4⟩⟩
    · simp [World.setCell, Array.getElem?_modify, k1]
    · rw [Nat.mul_one, Array.toList_setIfInBounds, List.take_set, k5, strs_set]
/-- A row with a hole. -/
def holeW (out : List (List UInt8)) (j : Nat) (x : List UInt8) : List (List UInt8) := out.take j ++ x :: out.drop j
theorem hole_length (out : List (List UInt8)) (j : Nat) (x : List UInt8) (h : j ≤ out.length) : (holeW out j x).length = out.length + 1 := by
  unfold holeW
  rw [List.length_append, List.length_cons, List.length_take, List.length_drop]
  omega
theorem hole_end (out : List (List UInt8)) (x : List UInt8) : holeW out out.length x = out ++ [x] := by
  unfold holeW
  rw [List.take_length, List.drop_length]
theorem hole_fill (out : List (List UInt8)) (j : Nat) (x y : List UInt8) (h : j ≤ out.length) : (holeW out j x).set j y = holeW out j y := by
  unfold holeW
  rw [List.set_append_right _ _ (by rw [List.length_take]; omega), List.length_take, Nat.min_eq_left h, Nat.sub_self]
  rfl
theorem hole_back (out : List (List UInt8)) (j : Nat) (h : j < out.length) : holeW out (j + 1) (out.getD j []) = holeW out j (out.getD j []) := by
  unfold holeW
  rw [take_next [] out j h, List.append_assoc]
  rw [List.drop_eq_getElem_cons h]
  congr 2
  rw [List.getD_eq_getElem?_getD, List.getElem?_eq_getElem h]
  rfl
theorem hole_get (out : List (List UInt8)) (j : Nat) (x : List UInt8) (h : j < out.length) : (holeW out (j + 1) x).getD j [] = out.getD j [] := by
  unfold holeW
  rw [List.getD_eq_getElem?_getD, List.getElem?_append_left (by rw [List.length_take]; omega), List.getElem?_take, if_pos (by omega), List.getD_eq_getElem?_getD]
theorem putK_zero (out : List (List UInt8)) (s : List UInt8) : putK out s 0 = 0 := rfl
theorem putK_yes (out : List (List UInt8)) (s : List UInt8) (k : Nat) (h : 0 < cmpF (partsF (out.getD k [])) (partsF s)) : putK out s (k + 1) = putK out s k := if_pos h
theorem putK_no (out : List (List UInt8)) (s : List UInt8) (k : Nat) (h : ¬ 0 < cmpF (partsF (out.getD k [])) (partsF s)) : putK out s (k + 1) = k + 1 := if_neg h
theorem SMade.later {w wx wy : World} {A : Option Addr} {n c : Nat} {l : List (List UInt8)} (h : SMade w A n c l wx) (o : Only (fun _ => False) wx wy) : SMade w A n c l wy := ⟨h.1.only o fun _ _ f => f, h.2.1.trans o, h.2.2⟩
theorem unionR_len (rows : List (List (List UInt8))) (i k m : Nat) (hm : ∀ r ∈ rows, r.length ≤ m) (hi : i < rows.length) (hk : k ≤ (rows.getD i []).length) : (unionR (unionF (rows.take i)) ((rows.getD i []).take k)).length ≤ i * m + k := by
  have h1 := unionR_length ((rows.getD i []).take k) (unionF (rows.take i))
  have h2 := union_length (rows.take i)
  have h3 : totalF (rows.take i) ≤ i * m := by
    unfold totalF
    have : ∀ (n : Nat) (l : List (List (List UInt8))), (∀ r ∈ l, r.length ≤ m) → l.length ≤ n → (l.map List.length).sum ≤ n * m := by
      intro n
      induction n with
      | zero =>
        intro l _ hl
        rw [List.length_eq_zero_iff.1 (by omega : l.length = 0)]
        simp
      | succ n ih =>
        intro l hl hn
        cases l with
        | nil => simp
        | cons r l =>
          have := ih l (fun q hq => hl q (List.mem_cons_of_mem _ hq)) (by rw [List.length_cons] at hn; omega)
          have h0 := hl r List.mem_cons_self
          rw [List.map_cons, List.sum_cons, Nat.add_mul, Nat.one_mul]
          omega
    exact this i _ (fun r hr => hm r (List.mem_of_mem_take hr)) (by rw [List.length_take]; omega)
  rw [List.length_take] at h1
  omega
set_option maxRecDepth 20000 in
set_option maxHeartbeats 8000000 in
theorem runion (A : Option Addr) (n c B : Nat) (rs : List TRow) (w : World) (h : Rows2 w B A rs) (hn : rs.length = n) (hin : TIn rs) : Calls Try.prog 8 #[.slice A n c] w (StrsP w (unionF (txts rs))) := by
  have HS := Lib.hid h
  have HN := Lib.hid hn
  have HIN := Lib.hid hin.2
  have hb : n ≤ 100 := by have := hin.1; omega
  have HAT := Lib.hid (txts_at rs)
  have HUN : Hid (∀ i, i < n → unionF ((txts rs).take (i + 1)) = unionR (unionF ((txts rs).take i)) (rs.getD i tr0).xs) := Lib.hid fun i hi => by rw [← txts_at]; exact union_next _ i (by rw [List.length_map, hn]; exact hi)
  have HLN : Hid (∀ i k, i < n → k ≤ (rs.getD i tr0).xs.length → (unionR (unionF ((txts rs).take i)) ((rs.getD i tr0).xs.take k)).length ≤ i * 1000 + k) := Lib.hid fun i k hi hk => by
    have := unionR_len (txts rs) i k 1000 (fun r hr => by
      obtain ⟨q, hq, rfl⟩ := List.mem_map.1 hr
      exact (hin.2 q hq).1) (by rw [List.length_map, hn]; exact hi) (by rw [txts_at]; exact hk)
    rw [txts_at] at this
    exact this
  have HEND : Hid (unionF ((txts rs).take n) = unionF (txts rs)) := Lib.hid (by rw [List.take_of_length_le (by rw [List.length_map, hn]; exact Nat.le_refl _)])
  clear h hn hin
  go_enter Try.func8, Try.ntmps8
  go_wp2_with fail
  go_loopg [3, 4] n (fun gk u v wx => ∃ (i : Nat) (A1 : Option Addr) (c1 : Nat) (out : List (List UInt8)), u = .slice A1 out.length c1 ∧ v = .int .i64 i ∧ i + gk = n ∧ Hid (out = unionF ((txts rs).take i)) ∧ Hid (SMade w A1 out.length c1 out wx))
  case atStart => exact ⟨0, none, 0, [], rfl, rfl, by omega, Lib.hid rfl, Lib.hid (SMade.nil w)⟩
  case round =>
    obtain ⟨i, A1, c1, out, rfl, rfl, hi, HO, HM⟩ := hrel
    by_cases hlt : i < n
    · have l3 : (i : Int) < (n : Int) := by omega
      have hlt2 : i < rs.length := by rw [HN.out]; exact hlt
      have hmem := getD_in tr0 rs i hlt2
      have HR := Lib.hid (HS.out.2 _ hmem)
      have HRI := Lib.hid (HIN.out _ hmem)
      have HUN2 := Lib.hid (HUN.out i hlt)
      have HLN2 := Lib.hid fun k => HLN.out i k hlt
      have HAT2 : Hid (∀ W, Rows2 W B A rs → ∃ b o, A = some ⟨b, o, none⟩ ∧ W.cell? ⟨b, o + i, none⟩ = some (.slice (rs.getD i tr0).A (rs.getD i tr0).n (rs.getD i tr0).c)) := Lib.hid fun W hW => hW.at hlt2
      clear hmem hlt2
      obtain ⟨r, hr⟩ : ∃ r, rs.getD i tr0 = r := ⟨_, rfl⟩
      rw [hr] at HR HRI HUN2 HLN2 HAT2
      clear hr
      obtain ⟨RA, RN, RC, xs⟩ := r
      have hxl := HR.out.2
      have hxm := HRI.out.1
      simp only at HR HRI HUN2 HLN2 HAT2 hxl hxm
      rw [← HO.out] at HUN2 HLN2
      go_wp2_with fail
      go_loopg [3, 5] RN (fun gj u v wy => ∃ (k : Nat) (A2 : Option Addr) (c2 : Nat) (ou : List (List UInt8)), u = .slice A2 ou.length c2 ∧ v = .int .i64 k ∧ k + gj = RN ∧ Hid (ou = unionR out (xs.take k)) ∧ Hid (SMade w A2 ou.length c2 ou wy))
      case atStart => exact ⟨0, A1, c1, out, rfl, rfl, by omega, Lib.hid rfl, HM⟩
      case round =>
        obtain ⟨k, A2, c2, ou, rfl, rfl, hk, HO2, HM2⟩ := hrel
        obtain ⟨b, o, rfl, d0⟩ := HAT2.out _ (HS.out.new HM2.out.2.1)
        by_cases hlk : k < RN
        · have l4 : (k : Int) < (RN : Int) := by omega
          have hlk2 : k < xs.length := by omega
          obtain ⟨b2, o2, e2, d1⟩ := See.str (HR.out.1.new HM2.out.2.1) hlk2
          subst e2
          have hou : ou.length ≤ 100 * 1000 + 1000 := by
            have h1 := HLN2.out k (by omega)
            have h2 : i * 1000 ≤ 100 * 1000 := Nat.mul_le_mul_right _ (by omega)
            rw [← HO2.out] at h1
            omega
          have HNX : Hid (unionR out (xs.take (k + 1)) = addW ou (xs.getD k [])) := Lib.hid (by rw [unionR_next out xs k hlk2, HO2.out])
          have hx := HRI.out.2 _ (getD_in [] xs k hlk2)
          obtain ⟨x, hxx⟩ : ∃ x, xs.getD k [] = x := ⟨_, rfl⟩
          rw [hxx] at d1 HNX hx
          have HSX : Hid (See w B (some ⟨b2, o2, none⟩) (strs xs) ∧ (strs xs)[k]? = some (.string (tx x))) := Lib.hid ⟨HR.out.1, by rw [← hxx]; exact strs_at xs k hlk2⟩
          clear hxx hlk2
          have HH := Lib.hid (rhas A2 ou.length c2 wr.heap.size ou x wr HM2.out.1.see rfl (by omega))
          obtain ⟨m, hm⟩ : ∃ m, ou.length = m := ⟨_, rfl⟩
          rw [hm] at HH HM2 hou ⊢
          by_cases hxo : x ∈ ou
          · rw [decide_eq_true hxo] at HH
            have HO3 : Hid (ou = unionR out (xs.take (k + 1))) := Lib.hid (by rw [HNX.out]; exact (if_pos hxo).symm)
            clear hxo
            go_wp2_with fail
            refine HH.out.mono ?_
            rintro e w2 ⟨rfl, q2⟩
            have HM3 := Lib.hid (HM2.out.later q2)
            clear HH HM2 q2
            go_wp2_with fail
            go_roundg (RN - (k + 1))
            case measure => omega
            case rel =>
              refine ⟨k + 1, A2, c2, ou, by rw [hm], by go_num, by omega, HO3, ?_⟩
              rw [hm]
              exact HM3
          · rw [decide_eq_false hxo] at HH
            have HO3 : Hid (unionR out (xs.take (k + 1)) = putW ou x) := Lib.hid (by rw [HNX.out]; exact if_neg hxo)
            clear hxo
            go_wp2_with fail
            refine HH.out.mono ?_
            rintro e w2 ⟨rfl, q2⟩
            have HM3 := Lib.hid (HM2.out.later q2)
            clear HH HM2 q2
            go_wp2_with (at_builtin
                         refine wpList_append_rs rfl (.tmp 33) (.tmp 34) 26 26 9 rfl Try.underlying26 infoStr zeroStr A2 m c2 (strs ou) [.string (tx [])] (.slice (some ⟨w2.heap.size, 0, none⟩) 1 1) (by rfl) (by rfl) (HM3.out.1.alloc _) (Src.oneStr Try.underlying26 w2 (tx []) 1 9) (by omega) (by omega) ?_
                         intro A3 c3 w3 hrow2 honly2 hlies2
                         have HM4 : Hid (SMade w A3 (m + 1) c3 (holeW ou m []) w3) := Lib.hid (by
                           rw [← hm, hole_end, hm]
                           exact HM3.out.append (by rw [← strs_snoc]; exact hrow2) honly2 hlies2)
                         clear hrow2 honly2 hlies2)
            obtain ⟨g, rfl, hg0, _⟩ := HM4.out.set (i := 0) (by omega)
            clear d0 d1 HM3
            go_loopg [6] m (fun gl u wq => ∃ (h : List UInt8), u = .int .i64 gl ∧ gl ≤ m ∧ Hid (putK ou x gl = putK ou x m) ∧ Hid (SMade w (some ⟨g, 0, none⟩) (m + 1) c3 (holeW ou gl h) wq))
            case atStart => exact ⟨[], rfl, Nat.le_refl _, Lib.hid rfl, HM4⟩
            case round =>
              obtain ⟨hh, rfl, hgl, HK, HM5⟩ := hrel
              obtain ⟨_, _, e0, d0⟩ := HAT2.out _ (HS.out.new HM5.out.2.1)
              cases e0
              obtain ⟨_, _, e1, _, d1⟩ := HSX.out.1.new HM5.out.2.1 k _ HSX.out.2
              cases e1
              cases gk with
              | zero =>
                have hq : decide ((0 : Int) < (0 : Int)) = false := rfl
                have HPW : Hid (holeW ou 0 x = putW ou x) := Lib.hid (by
                  unfold putW
                  rw [hm, ← HK.out, putK_zero]
                  rfl)
                go_upto_region 11 with fail
                go_quiet (fail)
                have HZ : Hid (Only (fun _ => False) wr (wr.drewN nq)) := Lib.hid ((Only.refl _ wr).drewN nq)
                generalize wr.drewN nq = wz at HZ ⊢
                have HMZ := Lib.hid (HM5.out.later HZ.out)
                have d0' := only_cell d0 HZ.out
                have d1' := only_cell d1 HZ.out
                clear d0 d1 HM5 hq
                obtain ⟨_, e3, _, ⟨v0, s0⟩, f0, hset⟩ := HMZ.out.set (i := 0) (by omega)
                cases e3
                have HM6 := Lib.hid (hset x)
                rw [hole_fill ou (0) hh x (by omega), HPW.out] at HM6
                clear hset
                go_wp2_with fail
                go_roundg (RN - (k + 1))
                case measure => omega
                case rel =>
                  have e : (unionR out (xs.take (k + 1))).length = m + 1 := by rw [HO3.out, put_length, hm]
                  refine ⟨k + 1, some ⟨g, 0, none⟩, c3, unionR out (xs.take (k + 1)), by rw [e], by go_num, by omega, Lib.hid rfl, ?_⟩
                  rw [e, HO3.out]
                  exact HM6
              | succ j =>
                have hjm : j < ou.length := by omega
                obtain ⟨_, e4, s1⟩ := HM5.out.1.cell (strs_at (holeW ou (j + 1) hh) j (by rw [hole_length ou (j + 1) hh (by omega)]; omega))
                cases e4
                rw [hole_get ou j hh hjm] at s1
                have HBK := Lib.hid (hole_back ou j hjm)
                have HYES := Lib.hid (putK_yes ou x j)
                have HNO := Lib.hid (putK_no ou x j)
                obtain ⟨q, hqq⟩ : ∃ q, ou.getD j [] = q := ⟨_, rfl⟩
                rw [hqq] at s1 HBK HYES HNO
                have HQL : Hid (q.length ≤ 2000) := Lib.hid (by
                  have hq1 : q ∈ ou := by
                    rw [← hqq]
                    exact getD_in [] ou j hjm
                  rw [HO2.out] at hq1
                  rcases unionR_mem _ _ hq1 with g1 | g1
                  · rw [HO.out] at g1
                    obtain ⟨r1, g2, g3⟩ := union_mem g1
                    obtain ⟨r2, g4, g5⟩ := List.mem_map.1 (List.mem_of_mem_take g2)
                    exact (HIN.out r2 g4).2 q (g5 ▸ g3)
                  · exact HRI.out.2 q (List.mem_of_mem_take g1))
                have HCQ := Lib.hid fun w1 => rcompare q x w1 (by have := HQL.out; omega) (by omega)
                clear hqq
                have hcv := cmp_vals (partsF q) (partsF x)
                generalize cmpF (partsF q) (partsF x) = C at HCQ HYES HNO hcv
                obtain ⟨j1, hj⟩ : ∃ j1, j + 1 = j1 := ⟨_, rfl⟩
                rw [hj] at HM5 HK HBK HYES HNO hgl ⊢
                have hq : 0 < j1 := by omega
                have hw : IntKind.i64.wrap (j : Int) = (j : Int) := IntWalk.i64_in _ (by omega)
                have hj1 : (j1 : Int) - 1 = (j : Int) := by omega
                have hj2 : (0 : Int) ≤ (j : Int) := by omega
                have hj3 : (j : Int) < ((m + 1 : Nat) : Int) := by omega
                have hj4 : (j : Int) < (m : Int) + 1 := by omega
                have hj5 : j < m + 1 := by omega
                have HJ := Lib.hid hj
                clear hj
                go_upto_region 11 with fail
                go_region_held3 (fun W => W.cell? ⟨g, j, none⟩ = some (.string (tx q)) ∧ W.cell? ⟨b, o + i, none⟩ = some (.slice (some ⟨b2, o2, none⟩) RN RC) ∧ W.cell? ⟨b2, o2 + k, none⟩ = some (.string (tx x))) (first | exact ⟨s1, d0, d1⟩ | exact ⟨by assumption, by assumption, by assumption⟩)
                  (first
                    | (go_at_call 14; refine (HCQ.out _).mono ?_; rintro e w5 ⟨rfl, q5⟩
                       have g0 : w5.cell? ⟨g, j, none⟩ = some (.string (tx q)) := only_cell (by first | assumption | exact s1) q5
                       have g1 : w5.cell? ⟨b, o + i, none⟩ = some (.slice (some ⟨b2, o2, none⟩) RN RC) := only_cell (by first | assumption | exact d0) q5
                       have g2 : w5.cell? ⟨b2, o2 + k, none⟩ = some (.string (tx x)) := only_cell (by first | assumption | exact d1) q5
                       have HO5 := Lib.hid q5
                       clear q5))
                have HOX : Hid (Only (fun _ => False) wr w5) := Lib.hid (((Only.refl _ wr).drew).trans HO5.out)
                have HMZ := Lib.hid (HM5.out.later HOX.out)
                clear HO5 HM5 s1 d0 d1
                by_cases hC : 0 < C
                · have HK2 : Hid (putK ou x j = putK ou x m) := Lib.hid (by rw [← HK.out, ← HYES.out hC])
                  obtain ⟨_, e3, _, ⟨v0, s0⟩, f0, hset⟩ := HMZ.out.set (i := j1) (by omega)
                  cases e3
                  have HM6 := Lib.hid (hset q)
                  rw [hole_fill ou j1 hh q (by omega), HBK.out] at HM6
                  clear hset HYES HNO
                  go_wp2_with fail
                  go_roundg j
                  case measure => omega
                  case rel => exact ⟨q, by go_num, by omega, HK2, HM6⟩
                · have HPW : Hid (holeW ou j1 x = putW ou x) := Lib.hid (by
                    unfold putW
                    rw [hm, ← HK.out, HNO.out (by omega)]
                    rfl)
                  clear HYES HNO
                  obtain ⟨_, e3, _, ⟨v0, s0⟩, f0, hset⟩ := HMZ.out.set (i := j1) (by omega)
                  cases e3
                  have HM6 := Lib.hid (hset x)
                  rw [hole_fill ou (j1) hh x (by omega), HPW.out] at HM6
                  clear hset
                  go_wp2_with fail
                  go_roundg (RN - (k + 1))
                  case measure => omega
                  case rel =>
                    have e : (unionR out (xs.take (k + 1))).length = m + 1 := by rw [HO3.out, put_length, hm]
                    refine ⟨k + 1, some ⟨g, 0, none⟩, c3, unionR out (xs.take (k + 1)), by rw [e], by go_num, by omega, Lib.hid rfl, ?_⟩
                    rw [e, HO3.out]
                    exact HM6
        · have hik : k = RN := by omega
          subst hik
          go_wp2_with fail
          go_roundg (n - (i + 1))
          case measure => omega
          case rel =>
            refine ⟨i + 1, A2, c2, ou, rfl, by go_num, by omega, ?_, HM2⟩
            exact Lib.hid (by rw [HUN2.out, HO2.out, List.take_of_length_le (by omega)])
    · have hin : i = n := by omega
      subst hin
      go_wp2
      go_ret
      rw [← HEND.out, ← HO.out]
      exact ⟨A1, c1, rfl, HM.out⟩
end Go.Proofs.Ytmdfkchgklphlaa
