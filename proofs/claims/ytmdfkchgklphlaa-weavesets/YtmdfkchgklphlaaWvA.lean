/- Layer 16, the document: rows of texts in memory; is a text in a row, which rows have it. -/
import Derived.Test.YtmdfkchgklphlaaWvM
import Derived.Test.YtmdfkchgklphlaaRtA
namespace Go.Proofs.Ytmdfkchgklphlaa
open Go.RowKit

/-- A row of texts as it lies in memory. -/
structure TRow where
  A : Option Addr
  n : Nat
  c : Nat
  xs : List (List UInt8)
abbrev rowV (r : TRow) : Value := .slice r.A r.n r.c
def tr0 : TRow := ⟨none, 0, 0, []⟩
abbrev txts (rs : List TRow) : List (List (List UInt8)) := rs.map (·.xs)
/-- Rows of texts, all below a block. -/
def Rows2 (w : World) (B : Nat) (A : Option Addr) (rs : List TRow) : Prop := See w B A (rs.map rowV) ∧ ∀ r ∈ rs, See w B r.A (strs r.xs) ∧ r.xs.length = r.n
theorem Rows2.new {w w' : World} {B : Nat} {A : Option Addr} {rs : List TRow} (h : Rows2 w B A rs) (k : Only (fun _ => False) w w') : Rows2 w' B A rs := ⟨h.1.new k, fun r hr => ⟨(h.2 r hr).1.new k, (h.2 r hr).2⟩⟩
theorem Rows2.keep {w w' : World} {B : Nat} {A : Option Addr} {rs : List TRow} (h : Rows2 w B A rs) (k : Keep B w w') : Rows2 w' B A rs := ⟨h.1.keep k, fun r hr => ⟨(h.2 r hr).1.keep k, (h.2 r hr).2⟩⟩
/-- Not too many, not too long. -/
def TIn (rs : List TRow) : Prop := rs.length ≤ 100 ∧ ∀ r ∈ rs, r.xs.length ≤ 1000 ∧ ∀ x ∈ r.xs, x.length ≤ 2000
theorem getD_in {α : Type} (d : α) (l : List α) (i : Nat) (h : i < l.length) : l.getD i d ∈ l := by
  rw [List.getD_eq_getElem?_getD, List.getElem?_eq_getElem h]
  exact List.getElem_mem h
theorem txts_at (rs : List TRow) (i : Nat) : (txts rs).getD i [] = (rs.getD i tr0).xs := by
  rw [List.getD_eq_getElem?_getD, List.getD_eq_getElem?_getD, List.getElem?_map]
  cases rs[i]? <;> rfl
/-- A row is read. -/
theorem Rows2.at {w : World} {B : Nat} {A : Option Addr} {rs : List TRow} (h : Rows2 w B A rs) {i : Nat} (hi : i < rs.length) : ∃ b o, A = some ⟨b, o, none⟩ ∧ w.cell? ⟨b, o + i, none⟩ = some (.slice (rs.getD i tr0).A (rs.getD i tr0).n (rs.getD i tr0).c) := by
  obtain ⟨b, o, e, _, hc⟩ := h.1 i (rowV (rs.getD i tr0)) (by rw [List.getElem?_map, List.getD_eq_getElem?_getD, List.getElem?_eq_getElem hi]; rfl)
  exact ⟨b, o, e, hc⟩
theorem See.str {w : World} {B : Nat} {A : Option Addr} {xs : List (List UInt8)} (h : See w B A (strs xs)) {i : Nat} (hi : i < xs.length) : ∃ b o, A = some ⟨b, o, none⟩ ∧ w.cell? ⟨b, o + i, none⟩ = some (.string (tx (xs.getD i []))) := by
  obtain ⟨b, o, e, _, hc⟩ := h i _ (strs_at xs i hi)
  exact ⟨b, o, e, hc⟩

set_option maxHeartbeats 2000000 in
theorem rhas (A : Option Addr) (n c B : Nat) (xs : List (List UInt8)) (s : List UInt8) (w : World) (h : See w B A (strs xs)) (hn : xs.length = n) (hn2 : n ≤ 1000000) : Calls Try.prog 13 #[.slice A n c, .string (tx s)] w fun e w' => e = .returned (.bool (decide (s ∈ xs))) ∧ Only (fun _ => False) w w' := by
  have HS := Lib.hid h
  have HN := Lib.hid hn
  have t2 := tx_toList s
  have HT : Hid (∀ i, i < n → xs.take (i + 1) = xs.take i ++ [xs.getD i []]) := Lib.hid fun i hi => take_next [] xs i (by omega)
  clear h hn
  go_enter Try.func13, Try.ntmps13
  go_wp2_with fail
  go_loopg [5] n (fun gk u wx => ∃ i : Nat, u = .int .i64 i ∧ i + gk = n ∧ wx = w ∧ Hid (s ∉ xs.take i))
  case atStart => exact ⟨0, rfl, by omega, rfl, Lib.hid (by simp)⟩
  case round =>
    obtain ⟨i, rfl, hi, rfl, HX⟩ := hrel
    by_cases hlt : i < n
    · have l3 : (i : Int) < (n : Int) := by omega
      obtain ⟨b, o, rfl, d0⟩ := See.str HS.out (by rw [HN.out]; exact hlt)
      have HT2 := Lib.hid (HT.out i hlt)
      have HG : Hid (xs.getD i [] ∈ xs) := Lib.hid (getD_in [] xs i (by rw [HN.out]; exact hlt))
      generalize xs.getD i [] = x at d0 HT2 HG
      have t1 := tx_toList x
      by_cases hx : x = s
      · have q : (x == s) = true := by rw [hx]; exact beq_self_eq_true s
        have HD : Hid (decide (s ∈ xs) = true) := Lib.hid (decide_eq_true (hx ▸ HG.out))
        clear hx
        go_wp2
        go_ret
        rw [HD.out]
        exact ⟨rfl, Only.refl _ _⟩
      · have q : (x == s) = false := by rw [beq_eq_false_iff_ne]; exact hx
        have HX2 : Hid (s ∉ xs.take (i + 1)) := Lib.hid (by
          rw [HT2.out, List.mem_append, List.mem_singleton]
          exact fun g => g.elim HX.out fun g => hx g.symm)
        clear hx
        go_wp2_with fail
        go_roundg (gk - 1)
        case measure => omega
        case rel => exact ⟨i + 1, by go_num, by omega, rfl, HX2⟩
    · have hin : i = n := by omega
      subst hin
      have HD : Hid (decide (s ∈ xs) = false) := Lib.hid (decide_eq_false (by
        have := HX.out
        rw [List.take_of_length_le (by rw [HN.out]; exact Nat.le_refl _)] at this
        exact this))
      go_wp2
      go_ret
      rw [HD.out]
      exact ⟨rfl, Only.refl _ _⟩

theorem infoI1 : (Try.prog.info? 3).map (fun i => (i.zero, i.size, i.bytes)) = some (some (.int .i64 0), 1, 8) := by kernel_rfl
theorem zeroI1 : (Value.int .i64 0).cells.size = 1 := by simp [Value.cells]
/-- A row of numbers of the call's own, laid since w. -/
def IMade (w : World) (A : Option Addr) (n c : Nat) (ks : List Nat) (wx : World) : Prop := Rs 3 1 wx A n c (ints ks) ∧ Only (fun _ => False) w wx ∧ ∀ j, Lies A j → w.heap.size ≤ j
theorem IMade.nil (w : World) : IMade w none 0 0 [] w := ⟨Rs.nil _ 1 w, Only.refl _ w, by rintro j ⟨ad, e, _⟩; cases e⟩
theorem IMade.later {w wx wy : World} {A : Option Addr} {n c : Nat} {l : List Nat} (h : IMade w A n c l wx) (o : Only (fun _ => False) wx wy) : IMade w A n c l wy := ⟨h.1.only o fun _ _ f => f, h.2.1.trans o, h.2.2⟩
theorem IMade.append {w wx wy : World} {A A' : Option Addr} {n c n' c' : Nat} {l l' : List Nat} {o : Obj} (h : IMade w A n c l wx) (hr : Rs 3 1 wy A' n' c' (ints l')) (ho : Only (Lies A) (wx.alloc o) wy) (ha : A' = A ∨ A' = some ⟨(wx.alloc o).heap.size, 0, none⟩) : IMade w A' n' c' l' wy := by
  refine ⟨hr, (h.2.1.alloc o).andThen ho fun j hj => .inr (h.2.2 j hj), fun j hj => ?_⟩
  rcases ha with e | e
  · exact h.2.2 j (e ▸ hj)
  · obtain ⟨ad, e1, e2⟩ := hj
    rw [e] at e1
    obtain rfl := Option.some.inj e1
    rw [← e2]
    exact (h.2.1.alloc o).size
/-- What is answered: a row of numbers. -/
def IntsP (w : World) (ks : List Nat) (e : Ending) (w' : World) : Prop := ∃ A c, e = .returned (.slice A ks.length c) ∧ IMade w A ks.length c ks w'
theorem ints_snoc (ks : List Nat) (k : Nat) : ints (ks ++ [k]) = ints ks ++ [.int .i64 (k : Nat)] := by simp [ints]

set_option maxHeartbeats 4000000 in
theorem rplaces (A : Option Addr) (n c B : Nat) (rs : List TRow) (s : List UInt8) (w : World) (h : Rows2 w B A rs) (hn : rs.length = n) (hin : TIn rs) : Calls Try.prog 11 #[.slice A n c, .string (tx s)] w (IntsP w (placesF (txts rs) s)) := by
  have HS := Lib.hid h
  have HN := Lib.hid hn
  have HIN := Lib.hid hin.2
  have hb : n ≤ 100 := by have := hin.1; omega
  have HP : Hid (placesF (txts rs) s = (List.range n).filter fun j => decide (s ∈ (txts rs).getD j [])) := Lib.hid (by unfold placesF; rw [List.length_map, hn])
  have HST := Lib.hid (places_next (txts rs) s)
  have HLE : Hid (∀ i, ((List.range i).filter fun j => decide (s ∈ (txts rs).getD j [])).length ≤ i) := Lib.hid fun i => by
    have := List.length_filter_le (fun j => decide (s ∈ (txts rs).getD j [])) (List.range i)
    rw [List.length_range] at this
    exact this
  have HAT := Lib.hid (txts_at rs)
  clear h hn hin
  go_enter Try.func11, Try.ntmps11
  go_wp2_with fail
  go_loopg [5, 6] n (fun gk u v wx => ∃ (i : Nat) (A1 : Option Addr) (c1 : Nat) (out : List Nat), u = .slice A1 out.length c1 ∧ v = .int .i64 i ∧ i + gk = n ∧ out.length ≤ i ∧ Hid (out = (List.range i).filter fun j => decide (s ∈ (txts rs).getD j [])) ∧ Hid (IMade w A1 out.length c1 out wx))
  case atStart => exact ⟨0, none, 0, [], rfl, rfl, by omega, Nat.le_refl _, Lib.hid rfl, Lib.hid (IMade.nil w)⟩
  case round =>
    obtain ⟨i, A1, c1, out, rfl, rfl, hi, hol, HO, HM⟩ := hrel
    obtain ⟨m, hm⟩ : ∃ m, out.length = m := ⟨_, rfl⟩
    rw [hm] at HM hol ⊢
    by_cases hlt : i < n
    · have l3 : (i : Int) < (n : Int) := by omega
      have hlt2 : i < rs.length := by rw [HN.out]; exact hlt
      obtain ⟨b, o, rfl, d0⟩ := (HS.out.new HM.out.2.1).at hlt2
      have hmem := getD_in tr0 rs i hlt2
      have hr := HS.out.2 _ hmem
      have hr2 := (HIN.out _ hmem).1
      have HST2 := Lib.hid (HST.out i)
      rw [HAT.out] at HST2
      clear hmem hlt2
      generalize rs.getD i tr0 = r at d0 hr hr2 HST2
      have HH := Lib.hid (rhas r.A r.n r.c B r.xs s wr (hr.1.new HM.out.2.1) hr.2 (by omega))
      clear hr hr2
      by_cases hx : s ∈ r.xs
      · rw [decide_eq_true hx] at HH
        rw [if_pos hx] at HST2
        have HO2 : Hid (out ++ [i] = (List.range (i + 1)).filter fun j => decide (s ∈ (txts rs).getD j [])) := Lib.hid (by rw [HST2.out, HO.out])
        clear hx HST2 HO
        go_wp2_with fail
        refine HH.out.mono ?_
        rintro e w2 ⟨rfl, o2⟩
        have HM1 := Lib.hid (HM.out.later o2)
        clear HH HM o2
        go_wp2_with (at_builtin
                     refine wpList_append_rs rfl (.tmp 19) (.tmp 21) 29 29 3 rfl Try.underlying29 infoI1 zeroI1 A1 m c1 (ints out) [.int .i64 (i : Nat)] (.slice (some ⟨w2.heap.size, 0, none⟩) 1 1) (by rfl) (by rfl) (HM1.out.1.alloc _) (Src.oneInt Try.underlying29 w2 .i64 (i : Nat) 1 3) (by omega) (by omega) ?_
                     intro A2 c2 w3 hrow2 honly2 hlies2
                     have HM2 : Hid (IMade w A2 (m + 1) c2 (out ++ [i]) w3) := Lib.hid (HM1.out.append (by rw [ints_snoc]; exact hrow2) honly2 hlies2)
                     clear hrow2 honly2 hlies2)
        go_roundg (gk - 1)
        case measure => omega
        case rel =>
          have e : (out ++ [i]).length = m + 1 := by rw [List.length_append, hm]; rfl
          refine ⟨i + 1, A2, c2, out ++ [i], by rw [e], by go_num, by omega, by rw [e]; omega, HO2, ?_⟩
          rw [e]
          exact HM2
      · rw [decide_eq_false hx] at HH
        rw [if_neg hx, List.append_nil] at HST2
        have HO2 : Hid (out = (List.range (i + 1)).filter fun j => decide (s ∈ (txts rs).getD j [])) := Lib.hid (by rw [HST2.out, HO.out])
        clear hx HST2 HO
        go_wp2_with fail
        refine HH.out.mono ?_
        rintro e w2 ⟨rfl, o2⟩
        have HM1 := Lib.hid (HM.out.later o2)
        clear HH HM o2
        go_wp2_with fail
        go_roundg (gk - 1)
        case measure => omega
        case rel =>
          refine ⟨i + 1, A1, c1, out, by rw [hm], by go_num, by omega, by omega, HO2, ?_⟩
          rw [hm]
          exact HM1
    · have hin : i = n := by omega
      subst hin
      go_wp2
      go_ret
      rw [HP.out, ← HO.out]
      refine ⟨A1, c1, by rw [hm]; rfl, ?_⟩
      rw [hm]
      exact HM.out
end Go.Proofs.Ytmdfkchgklphlaa
