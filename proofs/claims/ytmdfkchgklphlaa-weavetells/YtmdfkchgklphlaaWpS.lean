/- Layer 16, the program: rows of seats in memory; how many seats there are of the first one's text; their places. -/
import Derived.Test.YtmdfkchgklphlaaWpC
import Derived.Test.YtmdfkchgklphlaaGEdit
import Derived.Test.YtmdfkchgklphlaaWvA
namespace Go.Proofs.Ytmdfkchgklphlaa
open Go.RowKit

def seaC (l : List Sea) : List Value := l.flatMap seaV
theorem seaV_length (s : Sea) : (seaV s).length = 2 := rfl
theorem seaC_length : ∀ l : List Sea, (seaC l).length = l.length * 2
  | [] => rfl
  | s :: l => by
    have h := seaC_length l
    have e : seaC (s :: l) = seaV s ++ seaC l := rfl
    rw [e, List.length_append, h, seaV_length, List.length_cons, Nat.add_mul]
    omega
theorem seaC_append (l m : List Sea) : seaC (l ++ m) = seaC l ++ seaC m := List.flatMap_append ..
theorem seaC_snoc (l : List Sea) (s : Sea) : seaC (l ++ [s]) = seaC l ++ [.string (tx s.1), .int .i64 (s.2 : Nat)] := by
  rw [seaC_append]
  simp [seaC, seaV]
theorem seaC_at : ∀ (l : List Sea) (i : Nat), i < l.length → (seaC l)[i * 2]? = some (.string (tx (l.getD i sea0).1)) ∧ (seaC l)[i * 2 + 1]? = some (.int .i64 ((l.getD i sea0).2 : Nat))
  | [], i, h => by cases h
  | s :: l, 0, _ => ⟨rfl, rfl⟩
  | s :: l, i + 1, h => by
    have ih := seaC_at l i (by rw [List.length_cons] at h; omega)
    have e : ∀ k, (seaC (s :: l))[k + 2]? = (seaC l)[k]? := fun k => rfl
    rw [Nat.add_mul, Nat.one_mul, show i * 2 + 2 + 1 = i * 2 + 1 + 2 by omega, e, e]
    exact ih
theorem seaC_take (l : List Sea) (k : Nat) : (seaC l).take (k * 2) = seaC (l.take k) := by
  rcases Nat.lt_or_ge k l.length with h | h
  · have e : seaC l = seaC (l.take k) ++ seaC (l.drop k) := by rw [← seaC_append, List.take_append_drop]
    rw [e]
    exact List.take_left' (by rw [seaC_length, List.length_take]; omega)
  · rw [List.take_of_length_le (by rw [seaC_length]; omega), List.take_of_length_le h]
theorem seaC_drop (l : List Sea) (k : Nat) : (seaC l).drop (k * 2) = seaC (l.drop k) := by
  rcases Nat.lt_or_ge k l.length with h | h
  · have e : seaC l = seaC (l.take k) ++ seaC (l.drop k) := by rw [← seaC_append, List.take_append_drop]
    rw [e]
    exact List.drop_left' (by rw [seaC_length, List.length_take]; omega)
  · rw [List.drop_of_length_le (by rw [seaC_length]; omega), List.drop_of_length_le h]
    rfl
theorem seaC_set (l : List Sea) (k : Nat) (s : Sea) (h : k < l.length) : (seaC l).take (k * 2) ++ seaV s ++ (seaC l).drop (k * 2 + (seaV s).length) = seaC (l.set k s) := by
  rw [seaV_length, show k * 2 + 2 = (k + 1) * 2 by omega, seaC_take, seaC_drop, List.set_eq_take_append_cons_drop, if_pos h, seaC_append]
  rw [List.append_assoc]
  rfl
theorem seaC_ones (l : List Sea) : ∀ v ∈ seaC l, v.oneCell' = true := fun v hv => by
  obtain ⟨s, _, h⟩ := List.mem_flatMap.1 hv
  simp only [seaV, List.mem_cons, List.not_mem_nil, or_false] at h
  rcases h with rfl | rfl <;> rfl
theorem see_sea {w : World} {B : Nat} {A : Option Addr} {l : List Sea} (h : See w B A (seaC l)) {i : Nat} (hi : i < l.length) : ∃ b o, A = some ⟨b, o, none⟩ ∧ w.cell? ⟨b, o + i * 2, none⟩ = some (.string (tx (l.getD i sea0).1)) ∧ w.cell? ⟨b, o + i * 2 + 1, none⟩ = some (.int .i64 ((l.getD i sea0).2 : Nat)) := by
  obtain ⟨h0, h1⟩ := seaC_at l i hi
  obtain ⟨b, o, rfl, _, d0⟩ := h _ _ h0
  obtain ⟨b2, o2, e2, _, d1⟩ := h _ _ h1
  obtain ⟨rfl, rfl⟩ : b = b2 ∧ o = o2 := by simpa using e2
  exact ⟨b, o, rfl, d0, d1⟩
/-- From the k-th on. -/
theorem See.from {w : World} {B b o : Nat} {vs : List Value} (h : See w B (some ⟨b, o, none⟩) vs) (k : Nat) : See w B (some ⟨b, o + k, none⟩) (vs.drop k) := fun i v hv => by
  rw [List.getElem?_drop] at hv
  obtain ⟨b2, o2, e2, h1, d⟩ := h _ _ hv
  obtain ⟨rfl, rfl⟩ : b = b2 ∧ o = o2 := by simpa using e2
  exact ⟨b, o + k, rfl, h1, by rw [Nat.add_assoc]; exact d⟩
/-- The first k. -/
theorem See.head {w : World} {B : Nat} {A : Option Addr} {vs : List Value} (h : See w B A vs) (k : Nat) : See w B A (vs.take k) := fun i v hv => by
  rw [List.getElem?_take] at hv
  split at hv
  · exact h i v hv
  · cases hv

set_option maxRecDepth 20000 in
set_option maxHeartbeats 4000000 in
/-- How many seats there are of the first one's text. -/
theorem psame (A : Option Addr) (n c B : Nat) (l : List Sea) (u : List UInt8) (K : Nat) (w : World) (h : See w B A (seaC l)) (hn : l.length = n) (hb : n ≤ 1000000) (hK0 : 0 < K) (hKn : K ≤ n) (heq : ∀ j, j < K → (l.getD j sea0).1 = u) (hne : K < n → (l.getD K sea0).1 ≠ u) :
    Calls Try.prog 17 #[.slice A n c] w fun e w' => e = .returned (.int .i64 (K : Nat)) ∧ ∃ q, w' = w.drewN q := by
  obtain ⟨b, o, rfl, d0, _⟩ := see_sea h (i := 0) (by rw [hn]; omega)
  rw [heq 0 hK0, Nat.zero_mul, Nat.add_zero] at d0
  have HD : Hid (∀ j, j < n → ∀ q, (w.drewN q).cell? ⟨b, o + j * 2, none⟩ = some (.string (tx (l.getD j sea0).1))) := Lib.hid fun j hj q => by
    obtain ⟨b2, o2, e2, d, _⟩ := see_sea h (i := j) (by rw [hn]; exact hj)
    obtain ⟨rfl, rfl⟩ : b = b2 ∧ o = o2 := by simpa using e2
    exact d
  have d0 : ∀ q, (w.drewN q).cell? ⟨b, o, none⟩ = some (.string (tx u)) := fun _ => d0
  have HQ := Lib.hid heq
  have HNE := Lib.hid hne
  have tu := tx_toList u
  have h0 : (0 : Int) < (n : Int) := by omega
  clear h hn heq hne
  go_enter Try.func17, Try.ntmps17
  go_wp2_with fail
  go_loopg [3] K (fun gk v wx => ∃ j q : Nat, v = .int .i64 (j : Nat) ∧ j + gk = K + 1 ∧ (0 < j ∧ j ≤ K) ∧ wx = w.drewN q)
  case atStart => exact ⟨1, 0, rfl, by omega, ⟨by omega, hK0⟩, rfl⟩
  case round =>
    obtain ⟨j, q, rfl, hj, ⟨hj0, hjK⟩, rfl⟩ := hrel
    by_cases hjn : j < n
    · have dl : decide ((j : Int) < (n : Int)) = true := by simp; omega
      have dl2 : (j : Int) < (n : Int) := by omega
      have dj := HD.out j hjn
      by_cases hjk : j < K
      · rw [HQ.out j hjk] at dj
        have q3 : (u == u) = true := beq_self_eq_true u
        go_upto_region 2 with fail
        go_quiet (fail)
        go_wp2_with fail
        go_roundg (gk - 1)
        case measure => omega
        case rel => exact ⟨j + 1, _, by go_num, by omega, ⟨by omega, by omega⟩, rfl⟩
      · obtain rfl : j = K := by omega
        have hx := HNE.out hjn
        generalize (l.getD j sea0).1 = x at dj hx
        have t1 := tx_toList x
        have q3 : (x == u) = false := by rw [beq_eq_false_iff_ne]; exact hx
        clear hx
        go_upto_region 2 with fail
        go_quiet (fail)
        go_wp2
        go_ret
        exact ⟨rfl, _, World.drewN_drewN ..⟩
    · obtain rfl : j = n := by omega
      obtain rfl : j = K := by omega
      have dl : decide ((j : Int) < (j : Int)) = false := by simp
      go_upto_region 2 with fail
      go_quiet (fail)
      go_wp2
      go_ret
      exact ⟨rfl, _, World.drewN_drewN ..⟩

theorem made_laid {e : TypeId} {w0 wx : World} {A : Option Addr} {n c : Nat} {vs : List Value} (h : Made e w0 A n c vs wx) (o : Obj) : Made e w0 A n c vs (wx.alloc o) := ⟨h.1.alloc o, h.2.1.alloc o, h.2.2⟩
theorem fill_next (ks : List Nat) (n i : Nat) (h : i < n) (hl : ks.length = n) : (ks.take i ++ List.replicate (n - i) 0).set i (ln ks i) = ks.take (i + 1) ++ List.replicate (n - (i + 1)) 0 := by
  rw [List.set_append_right _ _ (by rw [List.length_take]; omega), List.length_take, Nat.min_eq_left (by omega), Nat.sub_self, show n - i = (n - (i + 1)) + 1 by omega, List.replicate_succ, List.set_cons_zero, take_next 0 ks i (by omega), List.append_assoc]
  rfl
theorem snd_at (l : List Sea) (i : Nat) : ln (l.map (·.2)) i = (l.getD i sea0).2 := by
  unfold ln
  rw [List.getD_eq_getElem?_getD, List.getD_eq_getElem?_getD, List.getElem?_map]
  cases l[i]? <;> rfl
set_option maxRecDepth 20000 in
set_option maxHeartbeats 4000000 in
/-- The places of seats. -/
theorem pplaces (A : Option Addr) (n c B : Nat) (l : List Sea) (w : World) (h : See w B A (seaC l)) (hn : l.length = n) (hb : n ≤ 1000000) :
    Calls Try.prog 18 #[.slice A n c] w fun e w' => e = .returned (.slice (some ⟨w.heap.size, 0, none⟩) n n) ∧ See w' w'.heap.size (some ⟨w.heap.size, 0, none⟩) (ints (l.map (·.2))) ∧ Only (fun _ => False) w w' := by
  have HS := Lib.hid h
  have HN := Lib.hid hn
  have HL : Hid ((l.map (·.2)).length = n) := Lib.hid (by rw [List.length_map]; exact hn)
  have hmk := run_make_row Try.underlying29 infoI1 (by omega) n (by omega) w
  have hst : Made 3 w (some ⟨w.heap.size, 0, none⟩) n n (ints ((l.map (·.2)).take 0 ++ List.replicate (n - 0) 0)) (w.alloc (.cells (List.replicate n (Value.int .i64 0)).toArray 3)) := by
    have e : ints ((l.map (·.2)).take 0 ++ List.replicate (n - 0) 0) = List.replicate n (Value.int .i64 0) := by simp [ints]
    rw [e]
    exact zeros_made (e := 3) (w := w) (kd := .i64) n (by omega)
  have HST := Lib.hid hst
  obtain ⟨R, hR⟩ : ∃ R, w.heap.size = R := ⟨_, rfl⟩
  rw [hR] at hmk HST ⊢
  have HR := Lib.hid hR
  clear h hn hst hR
  go_enter Try.func18, Try.ntmps18
  go_wp2_with fail
  go_loopg [11] n (fun gk v wx => ∃ i : Nat, v = .int .i64 (i : Nat) ∧ i + gk = n ∧ Made 3 w (some ⟨R, 0, none⟩) n n (ints ((l.map (·.2)).take i ++ List.replicate (n - i) 0)) wx)
  case atStart => exact ⟨0, rfl, by omega, HST.out⟩
  case round =>
    clear HST hmk
    obtain ⟨i, rfl, hi, hM⟩ := hrel
    have HM := Lib.hid hM
    clear hM
    by_cases hlt : i < n
    · have dl2 : (i : Int) < (n : Int) := by omega
      obtain ⟨b, o, rfl, d0, d1⟩ := see_sea (HS.out.new HM.out.2.1) (i := i) (by rw [HN.out]; exact hlt)
      have HF := Lib.hid (fill_next (l.map (·.2)) n i hlt HL.out)
      rw [snd_at] at HF
      obtain ⟨x, hx⟩ : ∃ x, (l.getD i sea0).1 = x := ⟨_, rfl⟩
      obtain ⟨p, hp⟩ : ∃ p, (l.getD i sea0).2 = p := ⟨_, rfl⟩
      rw [hx] at d0
      rw [hp] at d1 HF
      clear hx hp
      have hlen : i < (ints ((l.map (·.2)).take i ++ List.replicate (n - i) 0)).length := by rw [HM.out.1.len]; exact hlt
      obtain ⟨g, e4, c6, c7⟩ := HM.out.1.cell (List.getElem?_eq_getElem hlen)
      simp only [Option.some.injEq, Addr.mk.injEq, and_true] at e4
      subst e4
      obtain ⟨old, ho⟩ : ∃ old, (ints ((l.map (·.2)).take i ++ List.replicate (n - i) 0))[i] = old := ⟨_, rfl⟩
      have hat := List.getElem?_eq_getElem hlen
      rw [ho] at hat
      have c10 : ∀ ob, (wr.alloc ob).cell? ⟨R, i, none⟩ = some old := fun ob => by
        obtain ⟨g2, e5, c9, _⟩ := (made_laid HM.out ob).1.cell hat
        simp only [Option.some.injEq, Addr.mk.injEq, and_true] at e5
        subst e5
        exact c9
      have c8 : ∀ ob, (wr.alloc ob).frozen? ⟨R, i, none⟩ = false := fun ob => by
        obtain ⟨g2, e5, _, c9⟩ := (HM.out.1.alloc ob).cell (List.getElem?_eq_getElem hlen)
        simp only [Option.some.injEq, Addr.mk.injEq, and_true] at e5
        subst e5
        exact c9
      rw [ho] at c6
      clear hlen hat ho
      go_wp2_with fail
      go_roundg (gk - 1)
      case measure => omega
      case rel =>
        refine ⟨i + 1, by go_num, by omega, ?_⟩
        rw [← HF.out, ← ints_set]
        exact (made_laid HM.out _).setAt i _
    · obtain rfl : i = n := by omega
      go_wp2
      go_ret
      refine ⟨rfl, ?_, HM.out.2.1⟩
      have := HM.out.see
      rw [Nat.sub_self, List.replicate_zero, List.append_nil, List.take_of_length_le (by rw [HL.out]; exact Nat.le_refl _)] at this
      exact this
end Go.Proofs.Ytmdfkchgklphlaa
