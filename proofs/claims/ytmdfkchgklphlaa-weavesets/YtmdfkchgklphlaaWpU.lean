/- Layer 16, the program: the seats of all rows, sorted, each once. -/
import Derived.Test.YtmdfkchgklphlaaWpT
import Derived.Test.YtmdfkchgklphlaaWvL
namespace Go.Proofs.Ytmdfkchgklphlaa
open Go.RowKit

theorem Src.oneSea (w : World) (x : List UInt8) (p : Nat) (c : Nat) (t : TypeId) : Src Try.prog 2 37 (.slice (some ⟨w.heap.size, 0, none⟩) 1 c) 1 [.string (tx x), .int .i64 (p : Nat)] (w.alloc (.cells #[.string (tx x), .int .i64 (p : Nat)] t)) := by
  refine Src.ofSlice _ Try.underlying37 _ 1 c _ rfl (fun j u hu => ?_) (by simp [Value.oneCell'])
  have h := Is.new w t [.string (tx x), .int .i64 (p : Nat)]
  rw [Addr.add_lit, Nat.zero_add]
  exact h.cell j hu
/-- A row of seats of the call's own, laid since w. -/
def SeaMade (w : World) (A : Option Addr) (n c : Nat) (l : List Sea) (wx : World) : Prop := Rs 41 2 wx A n c (seaC l) ∧ Only (fun _ => False) w wx ∧ ∀ j, Lies A j → w.heap.size ≤ j
theorem SeaMade.nil (w : World) : SeaMade w none 0 0 [] w := ⟨Rs.nil _ 2 w, Only.refl _ w, by rintro j ⟨ad, e, _⟩; cases e⟩
theorem SeaMade.append {w wx wy : World} {A A' : Option Addr} {n c n' c' : Nat} {l l' : List Sea} {o : Obj} (h : SeaMade w A n c l wx) (hr : Rs 41 2 wy A' n' c' (seaC l')) (ho : Only (Lies A) (wx.alloc o) wy) (ha : A' = A ∨ A' = some ⟨(wx.alloc o).heap.size, 0, none⟩) : SeaMade w A' n' c' l' wy := by
  refine ⟨hr, (h.2.1.alloc o).andThen ho fun j hj => .inr (h.2.2 j hj), fun j hj => ?_⟩
  rcases ha with e | e
  · exact h.2.2 j (e ▸ hj)
  · obtain ⟨ad, e1, e2⟩ := hj
    rw [e] at e1
    obtain rfl := Option.some.inj e1
    rw [← e2]
    exact (h.2.1.alloc o).size
theorem SeaMade.turn {w wx wy : World} {A : Option Addr} {n c n' c' : Nat} {l l' : List Sea} (h : SeaMade w A n c l wx) (hr : Rs 41 2 wy A n' c' (seaC l')) (ho : Only (Lies A) wx wy) : SeaMade w A n' c' l' wy := ⟨hr, h.2.1.andThen ho fun j hj => .inr (h.2.2 j hj), h.2.2⟩
/-- What is answered: all seats. -/
def SeatsP (w : World) (rows : List (List (List UInt8))) (e : Ending) (w' : World) : Prop := ∃ A c, e = .returned (.slice A (seatsW rows (unionF rows)).length c) ∧ SeaMade w A (seatsW rows (unionF rows)).length c (seatsW rows (unionF rows)) w'
/-- Sorted and each once. -/
theorem seats_end {w wx : World} {A : Option Addr} {n c : Nat} {rows : List (List (List UInt8))} {D : List Sea} (h : SeaMade w A n c D wx) (hn : D.length = n) (hp : D.Perm (seatsTo rows rows.length)) (hu : Up D) (hb : n ≤ 1000000) :
    Calls Try.prog 22 #[.slice A n c] wx (SeatsP w rows) := by
  refine (pcompact A n c D wx h.1 hn hb).mono ?_
  rintro e w' ⟨h1, h2, h3⟩
  rw [seats_are hp hu] at h1 h2
  exact ⟨A, c, h1, h.turn h2 h3⟩
theorem taken (xs : List (List UInt8)) (i k : Nat) (h : k < xs.length) : (xs.take (k + 1)).map (fun u => ((u, i) : Sea)) = (xs.take k).map (fun u => (u, i)) ++ [(xs.getD k [], i)] := by
  rw [take_next [] xs k h, List.map_append]
  rfl

set_option maxRecDepth 20000 in
set_option maxHeartbeats 8000000 in
theorem pseats (A : Option Addr) (n c B : Nat) (rs : List TRow) (w : World) (h : Rows2 w B A rs) (hn : rs.length = n) (hin : smallW rs) : Calls Try.prog 15 #[.slice A n c] w (SeatsP w (txts rs)) := by
  have HS := Lib.hid h
  have HN := Lib.hid hn
  have HIN := Lib.hid hin.2
  have hb : n ≤ 8 := by have := hin.1; omega
  have HNX : Hid (∀ i, i < n → seatsTo (txts rs) (i + 1) = seatsTo (txts rs) i ++ seatsR i (rs.getD i tr0).xs) := Lib.hid fun i hi => by rw [seats_next, txts_at]
  have HSH : Hid (∀ s ∈ seatsTo (txts rs) n, s.1.length ≤ 100000) := Lib.hid fun s hs => by
    obtain ⟨h1, h2⟩ := seats_mem.1 hs
    rw [txts_at] at h2
    have := (hin.2 _ (getD_in tr0 rs s.2 (by omega))).2 _ h2
    omega
  clear h hn hin
  go_enter Try.func15, Try.ntmps15
  go_wp2_with fail
  go_loopg [3, 10] n (fun gk u v wx => ∃ (i m : Nat) (A1 : Option Addr) (c1 : Nat) (out : List Sea), u = .slice A1 m c1 ∧ v = .int .i64 (i : Nat) ∧ i + gk = n ∧ m ≤ i * 20 ∧ Hid (out.length = m ∧ out = seatsTo (txts rs) i ∧ SeaMade w A1 m c1 out wx))
  case atStart => exact ⟨0, 0, none, 0, [], rfl, rfl, by omega, by omega, Lib.hid ⟨rfl, rfl, SeaMade.nil w⟩⟩
  case round =>
    obtain ⟨i, m, A1, c1, out, rfl, rfl, hi, hm, HO⟩ := hrel
    by_cases hlt : i < n
    · have l3 : (i : Int) < (n : Int) := by omega
      have hlt2 : i < rs.length := by rw [HN.out]; exact hlt
      obtain ⟨b, o, rfl, d0⟩ := (HS.out.new HO.out.2.2.2.1).at hlt2
      have hmem := getD_in tr0 rs i hlt2
      have hr := HS.out.2 _ hmem
      have hr2 := (HIN.out _ hmem).1
      have HST := Lib.hid (HNX.out i hlt)
      clear hmem hlt2
      generalize rs.getD i tr0 = r at d0 hr hr2 HST
      obtain ⟨RA, RN, RC, xs⟩ := r
      simp only at hr hr2 d0
      have HR := Lib.hid hr.1
      have HRN := Lib.hid hr.2
      have hr3 : RN ≤ 20 := by rw [← hr.2]; exact hr2
      clear hr hr2
      go_wp2_with fail
      go_loopg [3, 17] RN (fun gj u v wx => ∃ (k m1 : Nat) (A2 : Option Addr) (c2 : Nat) (out1 : List Sea), u = .slice A2 m1 c2 ∧ v = .int .i64 (k : Nat) ∧ k + gj = RN ∧ m1 ≤ i * 20 + k ∧ Hid (out1.length = m1 ∧ out1 = out ++ (xs.take k).map (fun u => (u, i)) ∧ SeaMade w A2 m1 c2 out1 wx))
      case atStart => exact ⟨0, m, A1, c1, out, rfl, rfl, by omega, by omega, Lib.hid ⟨HO.out.1, by simp, HO.out.2.2⟩⟩
      case round =>
        obtain ⟨k, m1, A2, c2, out1, rfl, rfl, hk, hm1, HP⟩ := hrel
        by_cases hlk : k < RN
        · have l4 : (k : Int) < (RN : Int) := by omega
          have hlk2 : k < xs.length := by rw [HRN.out]; exact hlk
          obtain ⟨b2, o2, rfl, d1⟩ := See.str (HR.out.new HP.out.2.2.2.1) hlk2
          have HTK := Lib.hid (taken xs i k hlk2)
          clear hlk2
          generalize xs.getD k [] = x at d1 HTK
          have hrow := Lib.hid HP.out.2.2.1
          go_wp2_with (at_builtin
                       refine wpList_append_rs rfl (.tmp 21) (.tmp 25) 37 37 41 rfl Try.underlying37 infoSea zeroSea A2 m1 c2 (seaC out1) [.string (tx x), .int .i64 (i : Nat)] (.slice (some ⟨wr.heap.size, 0, none⟩) 1 1) (by rfl) (by rfl) (hrow.out.alloc _) (Src.oneSea wr x i 1 41) (by omega) (by omega) ?_
                       intro A3 c3 w3 hrow2 honly2 hlies2
                       have HM2 : Hid (SeaMade w A3 (m1 + 1) c3 (out1 ++ [(x, i)]) w3) := Lib.hid (HP.out.2.2.append (by rw [seaC_snoc]; exact hrow2) honly2 hlies2)
                       clear hrow2 honly2 hlies2)
          go_roundg (gk - 1)
          case measure => omega
          case rel => exact ⟨k + 1, m1 + 1, A3, c3, out1 ++ [(x, i)], by go_num, by go_num, by omega, by omega, Lib.hid ⟨by rw [List.length_append, HP.out.1]; rfl, by rw [HTK.out, HP.out.2.1, List.append_assoc], HM2.out⟩⟩
        · obtain rfl : k = RN := by omega
          have HE : Hid (out1 = seatsTo (txts rs) (i + 1)) := Lib.hid (by
            rw [HST.out, HP.out.2.1, HO.out.2.1]
            unfold seatsR
            rw [List.take_of_length_le (by rw [HRN.out]; exact Nat.le_refl _)])
          go_wp2_with fail
          go_roundg (n - (i + 1))
          case measure => omega
          case rel => exact ⟨i + 1, m1, A2, c2, out1, by go_num, by go_num, by omega, by omega, Lib.hid ⟨HP.out.1, HE.out, HP.out.2.2⟩⟩
    · obtain rfl : i = n := by omega
      have hlen : (txts rs).length = i := by rw [List.length_map]; exact HN.out
      by_cases hm0 : m = 0
      · subst hm0
        have HC := Lib.hid (seats_end (rows := txts rs) HO.out.2.2 HO.out.1 (by rw [HO.out.2.1, hlen]) (by rw [List.eq_nil_of_length_eq_zero HO.out.1]; exact List.Pairwise.nil) (by omega))
        clear hlen
        go_wp2_with fail
        refine (psort0 A1 c1 _ wr).mono ?_
        rintro e w1 ⟨rfl, hw1⟩
        rw [hw1]
        clear hw1
        go_wp2_with fail
        refine HC.out.mono ?_
        rintro e w2 ⟨A4, c4, rfl, hM⟩
        have HM := Lib.hid hM
        clear hM
        obtain ⟨N, hN⟩ : ∃ N, (seatsW (txts rs) (unionF (txts rs))).length = N := ⟨_, rfl⟩
        have HLN := Lib.hid hN
        rw [hN] at HM ⊢
        clear hN
        go_wp2
        go_ret
        exact ⟨A4, c4, by rw [HLN.out]; rfl, by rw [HLN.out]; exact HM.out⟩
      · obtain ⟨g, rfl, _⟩ := HO.out.2.2.1.base (by have := HO.out.2.2.1.cap; omega)
        have HSO := Lib.hid (psort g m c1 out wr HO.out.2.2.1 HO.out.1 (by rw [HO.out.2.1]; exact HSH.out) (by omega))
        go_wp2_with fail
        refine HSO.out.mono ?_
        rintro e w1 ⟨rfl, o1, D, hp, hu, hr⟩
        have HM1 : SeaMade w (some ⟨g, 0, none⟩) m c1 D w1 := HO.out.2.2.turn hr (o1.mono fun j hj => ⟨_, rfl, hj.symm⟩)
        have HC := Lib.hid (seats_end (rows := txts rs) HM1 (by rw [hp.length_eq, HO.out.1]) (by rw [hlen, ← HO.out.2.1]; exact hp) hu (by omega))
        clear hlen HM1 hr hu hp o1
        go_wp2_with fail
        refine HC.out.mono ?_
        rintro e w2 ⟨A4, c4, rfl, hM⟩
        have HM := Lib.hid hM
        clear hM
        obtain ⟨N, hN⟩ : ∃ N, (seatsW (txts rs) (unionF (txts rs))).length = N := ⟨_, rfl⟩
        have HLN := Lib.hid hN
        rw [hN] at HM ⊢
        clear hN
        go_wp2
        go_ret
        exact ⟨A4, c4, by rw [HLN.out]; rfl, by rw [HLN.out]; exact HM.out⟩
end Go.Proofs.Ytmdfkchgklphlaa
