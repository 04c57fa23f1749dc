/- Layer 6: the counts that come, the least first, in the document. -/
import Derived.Test.YtjbohidkjlnalaaCosts
namespace Go.Proofs.Ytjbohidkjlnalaa
open Go.RowKit

/-- A row with one number more at a place. -/
def hole (l : List Nat) (k v : Nat) : List Nat := l.take k ++ v :: l.drop k
theorem hole_length (l : List Nat) (k v : Nat) : (hole l k v).length = l.length + 1 := by
  simp [hole]
  omega
theorem hole_end (l : List Nat) (v : Nat) : hole l l.length v = l ++ [v] := by simp [hole]
theorem hole_set (l : List Nat) (k v u : Nat) (hk : k ≤ l.length) : (hole l k v).set k u = hole l k u := by
  unfold hole
  rw [List.set_append_right _ _ (by simp; omega)]
  simp [Nat.min_eq_left hk]
theorem hole_at (l : List Nat) (k v i : Nat) (hk : k ≤ l.length) (hi : i < k) : ln (hole l k v) i = ln l i := by
  unfold hole ln
  rw [List.getD_eq_getElem?_getD, List.getElem?_append_left (by simp; omega), List.getElem?_take, if_pos hi, List.getD_eq_getElem?_getD]
theorem hole_down (l : List Nat) (k : Nat) (hk : k < l.length) : hole l (k + 1) (ln l k) = hole l k (ln l k) := by
  unfold hole
  have e : l.drop k = ln l k :: l.drop (k + 1) := by rw [List.drop_eq_getElem_cons hk]; simp [ln, hk]
  have e2 : l.take (k + 1) = l.take k ++ [ln l k] := by rw [List.take_add_one, List.getElem?_eq_getElem hk]; simp [ln, hk]
  rw [e, e2, List.append_assoc]
  rfl
theorem hole_perm (l : List Nat) (k x : Nat) : (hole l k x).Perm (x :: l) := by
  unfold hole
  refine List.perm_middle.trans ?_
  rw [List.take_append_drop]
theorem hole_rise {l : List Nat} (h : Rise l) {k x : Nat} (hk : k ≤ l.length) (h1 : k = 0 ∨ ln l (k - 1) ≤ x) (h2 : ∀ i, k ≤ i → i < l.length → x ≤ ln l i) : Rise (hole l k x) := by
  unfold hole Rise
  have h3 : ∀ a ∈ l.take k, a ≤ x := fun a ha => by
    rw [List.mem_take_iff_getElem] at ha
    obtain ⟨i, hi, rfl⟩ := ha
    rcases h1 with h1 | h1
    · omega
    · have := Rise.at h (i := i) (j := k - 1) (by omega) (by omega)
      simp only [ln, List.getD_eq_getElem?_getD, List.getElem?_eq_getElem (show i < l.length by omega), Option.getD_some] at this
      unfold ln at h1
      rw [List.getD_eq_getElem?_getD] at h1
      omega
  have h4 : ∀ b ∈ l.drop k, x ≤ b := fun b hb => by
    rw [List.mem_drop_iff_getElem] at hb
    obtain ⟨i, hi, rfl⟩ := hb
    have := h2 (k + i) (by omega) (by omega)
    simp only [ln, List.getD_eq_getElem?_getD, List.getElem?_eq_getElem (show k + i < l.length by omega), Option.getD_some] at this
    exact this
  have h5 : Rise (l.take k ++ l.drop k) := by rw [List.take_append_drop]; exact h
  unfold Rise at h5
  rw [List.pairwise_append] at h5 ⊢
  refine ⟨h5.1, List.pairwise_cons.2 ⟨h4, h5.2.1⟩, fun a ha b hb => ?_⟩
  rw [List.mem_cons] at hb
  rcases hb with rfl | hb
  · exact h3 a ha
  · exact h5.2.2 a ha b hb
theorem Made.more {w wx wy : World} {n c c' : Nat} {A A' : Option Addr} {l : List Nat} {x : Nat} {o : Obj} (h : Made 3 w A n c (ints l) wx) (hr : Row 3 wy A' (n + 1) c' (ints l ++ [.int .i64 (x : Nat)])) (ho : Only (Lies A) (wx.alloc o) wy)
    (ha : A' = A ∨ A' = some ⟨(wx.alloc o).heap.size, 0, none⟩) : ∃ g', A' = some ⟨g', 0, none⟩ ∧ Made 3 w (some ⟨g', 0, none⟩) (n + 1) c' (ints (l ++ [x])) wy := by
  have h1 := h.append hr ho ha
  rw [← ints_snoc] at h1
  obtain ⟨_, ⟨_, h0, _⟩ | ⟨g, _, _, hg, _⟩⟩ := h1.1
  · omega
  · exact ⟨g, hg, hg ▸ h1⟩
theorem filter_take (c : List Nat) (i : Nat) (hi : i < c.length) : (c.take (i + 1)).filter (fun x => decide (0 < x)) = (c.take i).filter (fun x => decide (0 < x)) ++ if 0 < ln c i then [ln c i] else [] := by
  rw [List.take_add_one, List.filter_append]
  congr 1
  rw [List.getElem?_eq_getElem hi]
  simp only [Option.toList_some, List.filter_cons, List.filter_nil, ln, List.getD_eq_getElem?_getD, List.getElem?_eq_getElem hi, Option.getD_some]
  split <;> simp_all

def SomePost (w : World) (c : List Nat) (e : Ending) (w' : World) : Prop := ∃ A cap W, e = .returned (.slice A W.length cap) ∧ Made 3 w A W.length cap (ints W) w' ∧ Wt c W
/-- Where it stands behind i counts. -/
def SomeAt (w : World) (c : List Nat) (A : Option Addr) (m cap i : Nat) (wx : World) : Prop := ∃ l, l.length = m ∧ Made 3 w A m cap (ints l) wx ∧ Rise l ∧ l.Perm ((c.take i).filter fun x => decide (0 < x))

set_option maxHeartbeats 8000000 in
theorem someOf (A : Option Addr) (n k B : Nat) (c : List Nat) (w : World) (h : See w B A (ints c)) (hn : c.length = n) (h288 : n ≤ 288) (hl : Low c) :
    Calls Try.prog 22 #[.slice A n k] w (SomePost w c) := by
  have HS := Lib.hid h
  have HN := Lib.hid hn
  have HL := Lib.hid hl
  have HST : Hid (SomeAt w c none 0 0 0 w) := Lib.hid ⟨[], rfl, ⟨Row.nil 3 w, Only.refl _ w, by rintro j ⟨ad, e, _⟩; cases e⟩, List.Pairwise.nil, by simp⟩
  clear h hn hl
  go_enter Try.func22, Try.ntmps22
  go_wp2_with fail
  go_loopg [3, 4] n (fun gk v3 i wx => ∃ (j m cap : Nat) (Ao : Option Addr), i = .int .i64 j ∧ v3 = .slice Ao m cap ∧ j + gk ≤ n ∧ n ≤ j + gk ∧ m ≤ j ∧ Hid (SomeAt w c Ao m cap j wx))
  case atStart => exact ⟨0, 0, 0, none, rfl, rfl, by omega, by omega, by omega, HST⟩
  case round =>
    clear HST
    obtain ⟨j, m, cap, Ao, rfl, rfl, hg1, hg2, hmj, HI⟩ := hrel
    obtain ⟨gO, hgO⟩ : ∃ gO, gk = gO := ⟨_, rfl⟩
    by_cases hlt : j < n
    · obtain ⟨l, hlm, hmd, hri, hpe⟩ := HI.out
      have hsee := HS.out.new hmd.2.1 j _ (ints_at c j (by rw [HN.out]; exact hlt))
      obtain ⟨b, off, rfl, hbB, hc⟩ := hsee
      have hft := filter_take c j (by rw [HN.out]; exact hlt)
      obtain ⟨x, hx⟩ : ∃ x, ln c j = x := ⟨_, rfl⟩
      rw [hx] at hc hft
      have HX := Lib.hid hx
      clear hx
      by_cases h0 : 0 < x
      · rw [if_pos h0] at hft
        have HFT := Lib.hid hft
        have HMD := Lib.hid hmd
        have HRI := Lib.hid hri
        have HPE := Lib.hid hpe
        have HLM := Lib.hid hlm
        have hx0 : ¬ (x : Int) = 0 := by omega
        clear hft hmd hri hpe hlm HI
        go_upto_region 7 with fail
        go_wp2_with (at_builtin
                     refine wpList_append_row rfl (.tmp 19) (.tmp 20) 22 22 3 rfl Try.underlying22 info3 Ao m cap 1 (ints l) [.int .i64 0] (.slice (some ⟨wr.heap.size, 0, none⟩) 1 1) rfl rfl (HMD.out.1.alloc _) rfl (Src.oneInt Try.underlying22 wr .i64 0 1 3) (by omega) (by omega) ?_
                     intro A9 c9 w9 hrow9 honly9 hlies9
                     have H9 := Lib.hid (HMD.out.more (x := 0) hrow9 honly9 hlies9)
                     clear hrow9 honly9 hlies9)
        obtain ⟨g, h91, h92⟩ := H9.out
        rw [← hole_end l 0, HLM.out] at h92
        subst h91
        have H92 : Hid (∃ v, Made 3 w (some ⟨g, 0, none⟩) (m + 1) c9 (ints (hole l m v)) w9) := Lib.hid ⟨0, h92⟩
        clear H9 h92 HMD
        have HUP : Hid (∀ i, m ≤ i → i < m → x ≤ ln l i) := Lib.hid fun i h1 h2 => by omega
        have mixed := Try.laysSlF20_f38.mixed
        go_loopg [5] m (fun gk v5 wx => ∃ q : Nat, v5 = .int .i64 q ∧ q ≤ gk ∧ q ≤ m ∧ Hid (∀ i, q ≤ i → i < m → x ≤ ln l i) ∧ Hid (∃ v, Made 3 w (some ⟨g, 0, none⟩) (m + 1) c9 (ints (hole l q v)) wx))
        case atStart => exact ⟨m, by first | rfl | go_num, by omega, by omega, HUP, H92⟩
        case round =>
          clear HUP H92
          obtain ⟨q, rfl, hqg, hqm, HUP, HI⟩ := hrel
          obtain ⟨v, hmd⟩ := HI.out
          have hc : wr.cell? ⟨b, off + j, none⟩ = some (.int .i64 (x : Int)) := by
            obtain ⟨b', off', e1, _, e2⟩ := HS.out.new hmd.2.1 j _ (ints_at c j (by rw [HN.out]; exact hlt))
            obtain ⟨rfl, rfl⟩ : b = b' ∧ off = off' := by simpa using e1
            rw [HX.out] at e2
            exact e2
          have hcq : ∀ nq, (wr.drewN nq).cell? ⟨b, off + j, none⟩ = some (.int .i64 (x : Int)) := fun _ => hc
          obtain ⟨cq1, cq2⟩ := hmd.at q (by rw [hole_length, HLM.out]; omega)
          by_cases hq0 : 0 < q
          · obtain ⟨q', hq'⟩ : ∃ q', q' + 1 = q := ⟨q - 1, by omega⟩
            obtain ⟨cp1, _⟩ := hmd.at q' (by rw [hole_length, HLM.out]; omega)
            rw [hole_at l q v q' (by rw [HLM.out]; omega) (by omega)] at cp1
            obtain ⟨y, hy⟩ : ∃ y, ln l q' = y := ⟨_, rfl⟩
            rw [hy] at cp1
            have cpq : ∀ nq, (wr.drewN nq).cell? ⟨g, q', none⟩ = some (.int .i64 (y : Int)) := fun _ => cp1
            have eq' : (q : Int) - 1 = (q' : Int) := by omega
            have rq' : IntKind.i64.wrap (q' : Int) = (q' : Int) := by rw [IntKind.wrap_i64]; omega
            have bq' : (q' : Int) < ((m + 1 : Nat) : Int) := by omega
            have hq0i : (0 : Int) < (q : Int) := by omega
            have hdq : decide ((q : Int) > 0) = true := decide_eq_true hq0i
            by_cases hyx : x < y
            · have hyxi : (x : Int) < (y : Int) := by omega
              have HN2 : Hid (∀ nq, ∃ v, Made 3 w (some ⟨g, 0, none⟩) (m + 1) c9 (ints (hole l q' v)) ((wr.drewN nq).setCell ⟨g, q, none⟩ (.int .i64 (y : Int)))) := Lib.hid fun nq => ⟨y, by
                have h5 := (hmd.drewN nq).setAt q (.int .i64 (y : Int))
                rw [ints_set, hole_set l q v y (by rw [HLM.out]; omega), ← hq', ← hy, hole_down l q' (by rw [HLM.out]; omega)] at h5
                rw [← hq', ← hy]
                exact h5⟩
              have HUP2 : Hid (∀ i, q' ≤ i → i < m → x ≤ ln l i) := Lib.hid fun i h1 h2 => by
                rcases Nat.lt_or_ge i q with h3 | h3
                · obtain rfl : i = q' := by omega
                  rw [hy]; omega
                · exact HUP.out i h3 h2
              have cs1 : ∀ nq, (wr.drewN nq).cell? ⟨g, q, none⟩ = some (.int .i64 (ln (hole l q v) q : Nat)) := fun _ => cq1
              have cs2 : ∀ nq, (wr.drewN nq).frozen? ⟨g, q, none⟩ = false := fun _ => cq2
              clear hmd HI hc hy HUP cp1 cq1 cq2
              go_wp2_with fail
              go_quiet (fail)
              have cp := cpq nq
              have ca := cs1 nq
              have cb := cs2 nq
              have HN3 := Lib.hid (HN2.out nq)
              clear cpq cs1 cs2 HN2 hcq
              generalize wr.drewN nq = w3 at cp ca cb HN3 ⊢
              go_wp2_with fail
              go_roundg q'
              case measure => omega
              case rel => exact ⟨q', by first | rfl | go_num, by omega, by omega, HUP2, HN3⟩
            · have hyxi : ¬ (x : Int) < (y : Int) := by omega
              have hdy : decide ((y : Int) > (x : Int)) = false := decide_eq_false (by omega)
              have HN2 : Hid (∀ nq, SomeAt w c (some ⟨g, 0, none⟩) (m + 1) c9 (j + 1) ((wr.drewN nq).setCell ⟨g, q, none⟩ (.int .i64 (x : Int)))) := Lib.hid fun nq => ⟨hole l q x, by rw [hole_length, HLM.out], by
                have h5 := (hmd.drewN nq).setAt q (.int .i64 (x : Int))
                rw [ints_set, hole_set l q v x (by rw [HLM.out]; omega)] at h5
                exact h5, hole_rise HRI.out (by rw [HLM.out]; omega) (.inr (by rw [show q - 1 = q' from by omega, hy]; omega)) (by rw [HLM.out]; exact HUP.out), by
                rw [HFT.out]
                exact (hole_perm l q x).trans ((HPE.out.cons x).trans (List.perm_append_singleton _ _).symm)⟩
              have cs1 : ∀ nq, (wr.drewN nq).cell? ⟨g, q, none⟩ = some (.int .i64 (ln (hole l q v) q : Nat)) := fun _ => cq1
              have cs2 : ∀ nq, (wr.drewN nq).frozen? ⟨g, q, none⟩ = false := fun _ => cq2
              clear hmd HI hc hy HUP cp1 cq1 cq2
              go_wp2_with fail
              go_quiet (fail)
              have cp := hcq nq
              have ca := cs1 nq
              have cb := cs2 nq
              have HN3 := Lib.hid (HN2.out nq)
              clear cpq cs1 cs2 HN2 hcq
              generalize wr.drewN nq = w3 at cp ca cb HN3 ⊢
              go_wp2_with fail
              go_roundg (gO - 1)
              case measure => omega
              case rel => exact ⟨j + 1, m + 1, c9, _, by go_num, rfl, by omega, by omega, by omega, HN3⟩
          · obtain rfl : q = 0 := by omega
            have HN2 : Hid (∀ nq, SomeAt w c (some ⟨g, 0, none⟩) (m + 1) c9 (j + 1) ((wr.drewN nq).setCell ⟨g, 0, none⟩ (.int .i64 (x : Int)))) := Lib.hid fun nq => ⟨hole l 0 x, by rw [hole_length, HLM.out], by
              have h5 := (hmd.drewN nq).setAt 0 (.int .i64 (x : Int))
              rw [ints_set, hole_set l 0 v x (by omega)] at h5
              exact h5, hole_rise HRI.out (by omega) (.inl rfl) (by rw [HLM.out]; exact HUP.out), by
              rw [HFT.out]
              exact (hole_perm l 0 x).trans ((HPE.out.cons x).trans (List.perm_append_singleton _ _).symm)⟩
            have cs1 : ∀ nq, (wr.drewN nq).cell? ⟨g, 0, none⟩ = some (.int .i64 (ln (hole l 0 v) 0 : Nat)) := fun _ => cq1
            have cs2 : ∀ nq, (wr.drewN nq).frozen? ⟨g, 0, none⟩ = false := fun _ => cq2
            clear hmd HI hc HUP cq1 cq2
            go_wp2_with fail
            go_quiet (fail)
            have cp := hcq nq
            have ca := cs1 nq
            have cb := cs2 nq
            have HN3 := Lib.hid (HN2.out nq)
            clear cs1 cs2 HN2 hcq
            generalize wr.drewN nq = w3 at cp ca cb HN3 ⊢
            go_wp2_with fail
            go_roundg (gO - 1)
            case measure => omega
            case rel => exact ⟨j + 1, m + 1, c9, _, by go_num, rfl, by omega, by omega, by omega, HN3⟩
      · obtain rfl : x = 0 := by omega
        rw [if_neg h0, List.append_nil] at hft
        have HZ : Hid (SomeAt w c Ao m cap (j + 1) wr) := Lib.hid ⟨l, hlm, hmd, hri, by rw [hft]; exact hpe⟩
        clear hlm hmd hri hpe hft HI
        go_wp2_with fail
        go_roundg (gk - 1)
        case measure => omega
        case rel => exact ⟨j + 1, m, cap, Ao, by go_num, rfl, by omega, by omega, by omega, HZ⟩
    · obtain rfl : j = n := by omega
      obtain ⟨l, hlm, hmd, hri, hpe⟩ := HI.out
      rw [List.take_of_length_le (by rw [HN.out]; exact Nat.le_refl _)] at hpe
      have HZ : Hid (SomePost w c (.returned (.slice Ao m cap)) wr) := Lib.hid ⟨Ao, cap, l, by rw [hlm], by rw [hlm]; exact hmd, hri, hpe⟩
      clear hlm hmd hri hpe HI
      go_wp2
      go_ret
      exact HZ.out
end Go.Proofs.Ytjbohidkjlnalaa
