/- Layer 16, the program: slices.Compact over a row of seats. -/
import Derived.Test.YtmdfkchgklphlaaWpS
import Derived.Laws.StructEq
namespace Go.Proofs.Ytmdfkchgklphlaa
open Go.RowKit

theorem infoSea : (Try.prog.info? 41).map (fun i => (i.zero, i.size, i.bytes)) = some (some (.agg #[.string ByteArray.empty, .int .i64 0]), 2, 24) := by kernel_rfl
theorem zeroSea : (Value.agg #[.string ByteArray.empty, .int .i64 0]).cells.size = 2 := by simp [Value.cells]
/-- What is left of a row: D, the ones that are as the one ahead left out. -/
def Left1 (D : List Sea) (A : Option Addr) (c : Nat) (w : World) (e : Ending) (w' : World) : Prop := e = .returned (.slice A (ddF D D.length).length c) ∧ Rs 41 2 w' A (ddF D D.length).length c (seaC (ddF D D.length)) ∧ Only (Lies A) w w'
theorem left_all {D : List Sea} {A : Option Addr} {n c : Nat} {w w' : World} (h : ∀ i, 0 < i → i < n → D.getD i sea0 ≠ D.getD (i - 1) sea0) (hn : D.length = n) (hr : Rs 41 2 w' A n c (seaC D)) (ho : Only (Lies A) w w') : Left1 D A c w (.returned (.slice A n c)) w' := by
  have e : ddF D D.length = D := by rw [dd_first D D.length (fun i h1 h2 => h i h1 (by omega)) (Nat.le_refl _), List.take_length]
  unfold Left1
  rw [e, hn]
  exact ⟨rfl, hr, ho⟩
theorem wpList_skip {P : Program} {w w' : World} {ops : Array Oper} {rest : List Oper} {o : Oper} {a : Act} {Q : Exit → Act → World → Prop} (hgd : o.guard = none) (hr : (execOp a.eval o).run P w = .ok .skip w') (h : wpList P ops Q rest (a.put o.dst undef) w') : wpList P ops Q (o :: rest) a w := by
  refine wpList_plain hgd fun K hK => ?_
  unfold Oper.wp
  rw [hr, Oper.upon_skip]
  exact hK _ _ h
/-- A seat is stored over its cells. -/
theorem exec_store_sea {P : Program} {o : Oper} {a : Act} {w w' : World} (ty : TypeId) (x y : Operand) (ho : o.op = .store ty x y) (b i : Nat) (cells : List Value) (hx : a.eval x = .pointer (some ⟨b, i, none⟩)) (hy : a.eval y = .agg cells.toArray) (hi : (P.info? ty).map (·.size) = some cells.length) (hr : (storeCells ⟨b, i, none⟩ cells).run P w = .ok () w') : (execOp a.eval o).run P w = .ok .skip w' := by
  have hsv : (storeVar ty ⟨b, i, none⟩ (.agg cells.toArray)).run P w = .ok () w' := by
    cases hq : P.info? ty with
    | none => simp [hq] at hi
    | some j =>
      have hs : cells.length = j.size := by simp [hq] at hi; omega
      simp [storeVar, sizeOf, typeInfo, hq, Value.cells, hs, hr]
  unfold execOp
  simp only [ho, hx, hy, Instr.storeAt, Instr.sureAddr, Sem.run_bind, Sem.run_pure, Result.andThen_ok, hsv]
theorem sizeSea : (Try.prog.info? 41).map (·.size) = some 2 := by kernel_rfl
/-- What stands between two rounds of the inner loop: j seats are looked at. -/
def Mid (D : List Sea) (w : World) (g n c j m : Nat) (wx : World) : Prop := ∃ M : List Sea, Rs 41 2 wx (some ⟨g, 0, none⟩) n c (seaC M) ∧ M.length = n ∧ m = (ddF D j).length ∧ m < j ∧ M.take m = ddF D j ∧ (∀ p, j ≤ p + 1 → p < n → M.getD p sea0 = D.getD p sea0) ∧ Only (fun i => i = g) w wx
theorem Mid.same {D : List Sea} {w : World} {g n c j m : Nat} {wx : World} (h : Mid D w g n c j m wx) (hj : 0 < j) (he : D.getD j sea0 = D.getD (j - 1) sea0) (q : Nat) : Mid D w g n c (j + 1) m (wx.drewN q) := by
  obtain ⟨M, h1, h2, h3, h4, h5, h6, h7⟩ := h
  have e : ddF D (j + 1) = ddF D j := by
    show (if 0 < j ∧ _ then _ else _) = _
    rw [if_pos ⟨hj, he⟩]
  exact ⟨M, h1, h2, by rw [e]; exact h3, by omega, by rw [e]; exact h5, fun p hp => h6 p (by omega), h7.drewN q⟩
theorem Mid.next {D : List Sea} {w : World} {g n c j m : Nat} {wx : World} (h : Mid D w g n c j m wx) (hjn : j < n) (he : D.getD j sea0 ≠ D.getD (j - 1) sea0) (q : Nat) : ∃ w', (storeCells ⟨g, m * 2, none⟩ (seaV (D.getD j sea0))).run Try.prog (wx.drewN q) = .ok () w' ∧ Mid D w g n c (j + 1) (m + 1) w' := by
  obtain ⟨M, h1, h2, h3, h4, h5, h6, h7⟩ := h
  have hc := h1.cap
  obtain ⟨w', hr, ho, hw, _⟩ := Rs.write (P := Try.prog) (w := wx.drewN q) (h1.only ((Only.refl (fun _ => False) wx).drewN q) fun _ _ f => f) (m * 2) (seaV (D.getD j sea0)) (by rw [seaV_length]; omega) (by
    intro v hv
    simp only [seaV, List.mem_cons, List.not_mem_nil, or_false] at hv
    rcases hv with rfl | rfl <;> rfl)
  have hw2 := hw (by rw [seaV_length]; omega)
  rw [seaC_set _ _ _ (by omega)] at hw2
  have e : ddF D (j + 1) = ddF D j ++ [D.getD j sea0] := by
    show (if 0 < j ∧ _ then _ else _) = _
    rw [if_neg fun k => he k.2]
  refine ⟨w', hr, M.set m (D.getD j sea0), hw2, by rw [List.length_set, h2], by rw [e, List.length_append, h3]; rfl, by omega, ?_, fun p hp hpn => ?_, (h7.drewN q).trans ho⟩
  · rw [e, ← h5, take_next sea0 _ m (by rw [List.length_set]; omega), List.take_set_of_le (Nat.le_refl m)]
    congr 2
    rw [List.getD_eq_getElem?_getD, List.getElem?_set_self (by omega)]
    rfl
  · rw [← h6 p (by omega) hpn, List.getD_eq_getElem?_getD, List.getElem?_set_ne (by omega)]
    exact (List.getD_eq_getElem?_getD ..).symm
theorem Mid.start {D : List Sea} {w : World} {g n c k q : Nat} (hr : Rs 41 2 w (some ⟨g, 0, none⟩) n c (seaC D)) (hn : D.length = n) (h : ∀ i, 0 < i → i < k → D.getD i sea0 ≠ D.getD (i - 1) sea0) (hk : 0 < k) (hkn : k < n) (he : D.getD k sea0 = D.getD (k - 1) sea0) : Mid D w g n c (k + 1) k (w.drewN q) := by
  have e : ddF D (k + 1) = D.take k := by
    show (if 0 < k ∧ _ then _ else _) = _
    rw [if_pos ⟨hk, he⟩, dd_first D k h (by omega)]
  exact ⟨D, hr.only ((Only.refl (fun _ => False) w).drewN q) (fun _ _ f => f), hn, by rw [e, List.length_take]; omega, by omega, by rw [e], fun _ _ _ => rfl, (Only.refl _ w).drewN q⟩
theorem Mid.at {D : List Sea} {w : World} {g n c j m : Nat} {wx : World} (h : Mid D w g n c j m wx) (p : Nat) (hp : j ≤ p + 1) (hpn : p < n) : ∀ q, (wx.drewN q).cell? ⟨g, p * 2, none⟩ = some (.string (tx (D.getD p sea0).1)) ∧ (wx.drewN q).cell? ⟨g, p * 2 + 1, none⟩ = some (.int .i64 ((D.getD p sea0).2 : Nat)) := fun q => by
  obtain ⟨M, h1, h2, h3, h4, h5, h6, h7⟩ := h
  obtain ⟨b, o, e1, d0, d1⟩ := see_sea h1.see (i := p) (by omega)
  have hh := (h1.see)
  obtain ⟨g2, e2, d2⟩ := h1.cell (seaC_at M p (by omega)).1
  obtain ⟨g3, e3, d3⟩ := h1.cell (seaC_at M p (by omega)).2
  simp only [Option.some.injEq, Addr.mk.injEq, and_true] at e2 e3
  subst e2
  subst e3
  rw [h6 p hp hpn] at d2 d3
  exact ⟨d2, d3⟩
theorem Mid.done {D : List Sea} {w : World} {g n c m : Nat} {wx : World} (h : Mid D w g n c n m wx) : m ≤ n ∧ Rs 41 2 wx (some ⟨g, 0, none⟩) m c (seaC (ddF D n)) ∧ m = (ddF D n).length ∧ Only (fun i => i = g) w wx := by
  obtain ⟨M, h1, h2, h3, h4, h5, h6, h7⟩ := h
  have h8 := h1.front (i := m) (by omega)
  rw [seaC_take, h5] at h8
  exact ⟨by omega, h8, h3, h7⟩

set_option maxRecDepth 20000 in
set_option maxHeartbeats 8000000 in
theorem pcompact (A : Option Addr) (n c : Nat) (D : List Sea) (w : World) (h : Rs 41 2 w A n c (seaC D)) (hn : D.length = n) (hb : n ≤ 1000000) :
    Calls Try.prog 22 #[.slice A n c] w (Left1 D A c w) := by
  have HR := Lib.hid h
  have HA : Hid (∀ q, (∀ i, 0 < i → i < n → D.getD i sea0 ≠ D.getD (i - 1) sea0) → Left1 D A c w (.returned (.slice A n c)) (w.drewN q)) := Lib.hid fun q g => left_all g hn (h.only ((Only.refl (fun _ => False) w).drewN q) fun _ _ f => f) ((Only.refl _ w).drewN q)
  by_cases h2 : n < 2
  · have dl : (n : Int) < 2 := by omega
    have H := Lib.hid (HA.out 0 fun i _ _ => by omega)
    clear h HA
    go_enter Try.func22, Try.ntmps22
    go_wp2
    go_ret
    exact H.out
  · have dl : ¬ (n : Int) < 2 := by omega
    have hc := h.cap
    obtain ⟨g, rfl, hg⟩ := h.base (by omega)
    have HM : Hid (∀ k q, (∀ i, 0 < i → i < k → D.getD i sea0 ≠ D.getD (i - 1) sea0) → 0 < k → k < n → D.getD k sea0 = D.getD (k - 1) sea0 → Mid D w g n c (k + 1) k (w.drewN q)) := Lib.hid fun k q => Mid.start h hn
    have HC : Hid (∀ p, p < n → ∀ q, (w.drewN q).cell? ⟨g, p * 2, none⟩ = some (.string (tx (D.getD p sea0).1)) ∧ (w.drewN q).cell? ⟨g, p * 2 + 1, none⟩ = some (.int .i64 ((D.getD p sea0).2 : Nat))) := Lib.hid fun p hp q => by
      obtain ⟨g2, e2, d2⟩ := h.cell (seaC_at D p (by omega)).1
      obtain ⟨g3, e3, d3⟩ := h.cell (seaC_at D p (by omega)).2
      simp only [Option.some.injEq, Addr.mk.injEq, and_true] at e2 e3
      subst e2
      subst e3
      exact ⟨d2, d3⟩
    have HN := Lib.hid hn
    clear h hn hg
    go_enter Try.func22, Try.ntmps22
    go_wp2_with fail
    go_loopg [3] n (fun gk v wx => ∃ k q : Nat, v = .int .i64 (k : Nat) ∧ k + gk = n + 1 ∧ (0 < k ∧ k ≤ n) ∧ Hid (∀ i, 0 < i → i < k → D.getD i sea0 ≠ D.getD (i - 1) sea0) ∧ wx = w.drewN q)
    case atStart => exact ⟨1, 0, rfl, by omega, ⟨by omega, by omega⟩, Lib.hid fun i h1 h2 => by omega, rfl⟩
    case round =>
      obtain ⟨k, q, rfl, hk, ⟨hk0, hkn⟩, HD, rfl⟩ := hrel
      by_cases hlt : k < n
      · have dl2 : (k : Int) < (n : Int) := by omega
        have d0 := fun q => (HC.out k hlt q).1
        have d1 := fun q => (HC.out k hlt q).2
        have f0 := fun q => (HC.out (k - 1) (by omega) q).1
        have f1 := fun q => (HC.out (k - 1) (by omega) q).2
        obtain ⟨k1, hk1⟩ : ∃ k1, k - 1 = k1 := ⟨_, rfl⟩
        have hk2 : Hid (k = k1 + 1) := Lib.hid (by omega)
        obtain ⟨⟨x, p⟩, hx⟩ : ∃ s, D.getD k sea0 = s := ⟨_, rfl⟩
        obtain ⟨⟨y, r⟩, hy⟩ : ∃ s, D.getD (k - 1) sea0 = s := ⟨_, rfl⟩
        rw [hx] at d0 d1
        rw [hy, hk1] at f0 f1
        simp only at d0 d1 f0 f1
        have tx1 := tx_toList x
        have tx2 := tx_toList y
        have ek : (k : Int) - 1 = (k1 : Int) := by omega
        have HX := Lib.hid hx
        have HY := Lib.hid hy
        have hk1n : k1 < n := by omega
        clear hx hy hk1
        by_cases he : (x, p) = (y, r)
        · obtain ⟨rfl, rfl⟩ : x = y ∧ p = r := by simpa using he
          have q1 : (x == x) = true := beq_self_eq_true x
          have HM2 : Hid (∀ q, Mid D w g n c (k + 1) k (w.drewN q)) := Lib.hid fun q => HM.out k q HD.out hk0 hlt (by rw [HX.out, HY.out])
          clear he HM HA HC HD HX HY
          go_upto_region 6 with fail
          go_quiet (fail)
          have HM3 := Lib.hid (HM2.out (q + nq))
          rw [World.drewN_drewN]
          generalize w.drewN (q + nq) = w3 at HM3 ⊢
          obtain ⟨L, hL⟩ : ∃ L, n - k = L := ⟨_, rfl⟩
          obtain ⟨C, hC⟩ : ∃ C, c - k = C := ⟨_, rfl⟩
          have hn2 : Hid (n = k + L) := Lib.hid (by omega)
          have hL0 : 0 < L := by omega
          have hL9 : L ≤ 1000000 := by omega
          clear d0 d1 f0 f1 HM2 q1 ek hk1n hk2
          go_wp2_with fail
          clear hL hC
          go_loopg [3, 5] L (fun gj v x wx => ∃ j2 m : Nat, v = .int .i64 (m : Nat) ∧ x = .int .i64 (j2 : Nat) ∧ j2 + gj = L + 1 ∧ (0 < j2 ∧ j2 ≤ L) ∧ Hid (Mid D w g n c (k + j2) m wx))
          case atStart => exact ⟨1, k, rfl, rfl, by omega, ⟨by omega, by omega⟩, HM3⟩
          case round =>
            obtain ⟨j2, m, rfl, rfl, hj, ⟨hj0, hjL⟩, HQ⟩ := hrel
            have hmk : Hid (m < k + j2) := Lib.hid (by obtain ⟨_, _, _, _, h4, _⟩ := HQ.out; exact h4)
            have hm9 : m ≤ 2000000 := by have := hmk.out; have := hn2.out; omega
            by_cases hl2 : j2 < L
            · have hmn3 : m < n := by have := hmk.out; have := hn2.out; omega
              have dl3 : (j2 : Int) < (L : Int) := by omega
              obtain ⟨j3, hj3⟩ : ∃ j3, j2 - 1 = j3 := ⟨_, rfl⟩
              have hj4 : Hid (j2 = j3 + 1) := Lib.hid (by omega)
              have ej : (j2 : Int) - 1 = (j3 : Int) := by omega
              have hj3L : j3 < L := by omega
              have D0 := Lib.hid (HQ.out.at (k + j2) (by omega) (by have := hn2.out; omega))
              have D1 := Lib.hid (HQ.out.at (k + j3) (by have := hj4.out; omega) (by have := hn2.out; omega))
              rw [Nat.add_mul] at D0 D1
              have d0 := fun q => (D0.out q).1
              have d1 := fun q => (D0.out q).2
              have f0 := fun q => (D1.out q).1
              have f1 := fun q => (D1.out q).2
              have HE : Hid (∀ q, D.getD (k + j2) sea0 = D.getD (k + j3) sea0 → Mid D w g n c (k + (j2 + 1)) m (wr.drewN q)) := Lib.hid fun q he => HQ.out.same (by omega) (by rw [he]; congr 1; have := hj4.out; omega) q
              have HF : Hid (∀ q, D.getD (k + j2) sea0 ≠ D.getD (k + j3) sea0 → ∃ w', (storeCells ⟨g, m * 2, none⟩ (seaV (D.getD (k + j2) sea0))).run Try.prog (wr.drewN q) = .ok () w' ∧ Mid D w g n c (k + (j2 + 1)) (m + 1) w') := Lib.hid fun q he => HQ.out.next (by have := hn2.out; omega) (by rw [show k + j2 - 1 = k + j3 by have := hj4.out; omega]; exact he) q
              generalize D.getD (k + j2) sea0 = sx at d0 d1 HE HF
              generalize D.getD (k + j3) sea0 = sy at f0 f1 HE HF
              obtain ⟨x1, p1⟩ := sx
              obtain ⟨y1, r1⟩ := sy
              simp only at d0 d1 f0 f1
              have tx3 := tx_toList x1
              have tx4 := tx_toList y1
              clear hj3 D0 D1 HQ
              by_cases he2 : (x1, p1) = (y1, r1)
              · obtain ⟨rfl, rfl⟩ : x1 = y1 ∧ p1 = r1 := by simpa using he2
                have q1 : (x1 == x1) = true := beq_self_eq_true x1
                clear he2 HF
                go_upto_region 11 with fail
                go_quiet (fail)
                go_wp2_with fail
                go_roundg (gk - 1)
                case measure => omega
                case rel => exact ⟨j2 + 1, m, by go_num, by go_num, by omega, ⟨by omega, by omega⟩, Lib.hid (HE.out _ trivial)⟩
              · have hsplit : ((x1 == y1) = false) ∨ ((x1 == y1) = true ∧ ((p1 : Int) == (r1 : Int)) = false) := by
                  by_cases h : x1 = y1
                  · subst h
                    refine .inr ⟨beq_self_eq_true x1, ?_⟩
                    rw [beq_eq_false_iff_ne]
                    intro h
                    exact he2 (by rw [show p1 = r1 by omega])
                  · exact .inl (by rw [beq_eq_false_iff_ne]; exact h)
                have HF2 := Lib.hid fun q => HF.out q he2
                clear HF HE he2
                rcases hsplit with q1 | ⟨q1, q2⟩
                · go_upto_region 11 with fail
                  go_quiet (fail)
                  obtain ⟨w4, hst, hM4⟩ := HF2.out nq
                  have HM4 := Lib.hid hM4
                  clear hM4
                  go_wp2_with (refine wpList_skip rfl (exec_store_sea 41 (.tmp 51) (.tmp 50) rfl g (m * 2) (seaV (x1, p1)) (by rfl) (by rfl) sizeSea hst) ?_)
                  go_roundg (gk - 1)
                  case measure => omega
                  case rel => exact ⟨j2 + 1, m + 1, by go_num, by go_num, by omega, ⟨by omega, by omega⟩, HM4⟩
                · go_upto_region 11 with fail
                  go_quiet (fail)
                  obtain ⟨w4, hst, hM4⟩ := HF2.out nq
                  have HM4 := Lib.hid hM4
                  clear hM4
                  go_wp2_with (refine wpList_skip rfl (exec_store_sea 41 (.tmp 51) (.tmp 50) rfl g (m * 2) (seaV (x1, p1)) (by rfl) (by rfl) sizeSea hst) ?_)
                  go_roundg (gk - 1)
                  case measure => omega
                  case rel => exact ⟨j2 + 1, m + 1, by go_num, by go_num, by omega, ⟨by omega, by omega⟩, HM4⟩
            · obtain rfl : j2 = L := by omega
              have hq : Mid D w g n c n m wr := by have := HQ.out; rwa [← hn2.out] at this
              obtain ⟨hmn, hrow, hml, hon⟩ := hq.done
              obtain ⟨w5, hclr, hrow5, ho5⟩ := run_clear_rs (P := Try.prog) (t := 37) (ty := 0) Try.underlying37 (fun w => by kernel_rfl) zeroSea (by decide) (by simp [Value.cells, Value.oneCell']) hrow (m * 2) (n - m) (c - m) (Nat.le_refl _) (by rw [← Nat.add_mul]; exact Nat.mul_le_mul_right _ (by omega))
              have HEND : Hid (Left1 D (some ⟨g, 0, none⟩) c w (.returned (.slice (some ⟨g, 0, none⟩) m c)) w5) := Lib.hid (by
                unfold Left1
                rw [HN.out, ← hml]
                exact ⟨rfl, hrow5, (hon.trans ho5).mono fun i hi => ⟨_, rfl, hi.symm⟩⟩)
              clear hq hrow hml hon hrow5 ho5 HQ
              have hmn2 : (m : Int) ≤ (n : Int) := by omega
              have hcm : ¬ c = m := by have := hmk.out; have := hn2.out; omega
              go_wp2_with (at_builtin; refine wpList_exec rfl (exec_clearG (.tmp 56) rfl rfl hclr) ?_)
              go_ret
              exact HEND.out
        · have hsplit : ((x == y) = false) ∨ ((x == y) = true ∧ ((p : Int) == (r : Int)) = false) := by
            by_cases h : x = y
            · subst h
              refine .inr ⟨beq_self_eq_true x, ?_⟩
              rw [beq_eq_false_iff_ne]
              intro h
              exact he (by rw [show p = r by omega])
            · exact .inl (by rw [beq_eq_false_iff_ne]; exact h)
          have HD2 : Hid (∀ i, 0 < i → i < k + 1 → D.getD i sea0 ≠ D.getD (i - 1) sea0) := Lib.hid fun i h1 h2 => by
            rcases Nat.lt_or_ge i k with h | h
            · exact HD.out i h1 h
            · obtain rfl : i = k := by omega
              rw [HX.out, HY.out]
              exact he
          clear HX HY HD he HM HA
          rcases hsplit with q1 | ⟨q1, q2⟩
          · go_upto_region 6 with fail
            go_quiet (fail)
            go_wp2_with fail
            go_roundg (gk - 1)
            case measure => omega
            case rel => exact ⟨k + 1, _, by go_num, by omega, ⟨by omega, by omega⟩, HD2, rfl⟩
          · go_upto_region 6 with fail
            go_quiet (fail)
            go_wp2_with fail
            go_roundg (gk - 1)
            case measure => omega
            case rel => exact ⟨k + 1, _, by go_num, by omega, ⟨by omega, by omega⟩, HD2, rfl⟩
      · obtain rfl : k = n := by omega
        have H := Lib.hid (HA.out q HD.out)
        go_wp2
        go_ret
        exact H.out
end Go.Proofs.Ytmdfkchgklphlaa
