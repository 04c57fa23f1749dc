/- Layer 16, the program: a world with draws and new blocks alone; the order of texts, of seats. -/
import Derived.Test.YtmdfkchgklphlaaWpA
import Derived.Test.YtmdfkchgklphlaaRtA
import Derived.Test.YtmdfkchgklphlaaGSteps
import Derived.Test.YtmdfkchgklphlaaTShelf
import Derived.Sort.Grow
import Derived.BigQuiet
namespace Go.Proofs.Ytmdfkchgklphlaa
open Go.RowKit

/-- W is w, some draws on, with new blocks behind it. -/
def Gn (w W : World) : Prop := ∃ n os, W = Sort.grow (w.drewN n) os
theorem Gn.refl (w : World) : Gn w w := ⟨0, #[], by rw [Sort.grow_empty]; rfl⟩
theorem Gn.trans {a b c : World} (h1 : Gn a b) (h2 : Gn b c) : Gn a c := by
  obtain ⟨n, os, rfl⟩ := h1
  obtain ⟨m, os2, rfl⟩ := h2
  refine ⟨n + m, os ++ os2, ?_⟩
  rw [← Sort.grow_grow, ← World.drewN_drewN]
  rfl
theorem Gn.drawn (w : World) (n : Nat) : Gn w (w.drewN n) := ⟨n, #[], (Sort.grow_empty _).symm⟩
theorem Gn.laid (w : World) (o : Obj) : Gn w (w.alloc o) := ⟨0, #[o], Sort.alloc_eq_grow w o⟩
theorem Gn.drewN {a b : World} (h : Gn a b) (n : Nat) : Gn a (b.drewN n) := h.trans (Gn.drawn b n)
theorem Gn.drew {a b : World} (h : Gn a b) : Gn a b.drew := h.trans (Gn.drawn b 1)
theorem Gn.alloc {a b : World} (h : Gn a b) (o : Obj) : Gn a (b.alloc o) := h.trans (Gn.laid b o)
theorem Gn.only {a b : World} (h : Gn a b) : Only (fun _ => False) a b := by
  obtain ⟨n, os, rfl⟩ := h
  refine ⟨rfl, rfl, rfl, by rw [Sort.size_grow]; exact Nat.le_add_right _ _, fun k hk _ => ?_⟩
  show (a.heap ++ os)[k]? = _
  rw [Array.getElem?_append_left hk]

set_option maxRecDepth 20000 in
/-- A byte's place in order. -/
theorem prankD (b : UInt8) (w : World) : Calls Try.prog 38 #[.int .u8 b.toNat] w fun e w' => e = .returned (.int .i64 (rankF b)) ∧ w' = w := by
  have hb := b.toNat_lt
  by_cases h : b = 47
  · have q : ((b.toNat : Int) == 47) = true := by rw [h]; rfl
    have e : rankF b = -1 := if_pos h
    rw [e]
    go_enter Try.func38, Try.ntmps38
    go_wp2
    go_ret
    exact ⟨rfl, rfl⟩
  · have q : ((b.toNat : Int) == 47) = false := by
      rw [beq_eq_false_iff_ne]
      exact fun e => h (UInt8.toNat_inj.1 (by show b.toNat = 47; omega))
    have e : rankF b = b.toNat := if_neg h
    rw [e]
    generalize b.toNat = k at hb q
    go_enter Try.func38, Try.ntmps38
    go_wp2
    go_ret
    exact ⟨rfl, rfl⟩
theorem cmpB_dropD (a b : List UInt8) (i : Nat) (ha : i < a.length) (hb : i < b.length) : cmpB (a.drop i) (b.drop i) = if a.getD i 0 = b.getD i 0 then cmpB (a.drop (i + 1)) (b.drop (i + 1)) else if rankF (a.getD i 0) < rankF (b.getD i 0) then -1 else 1 := by
  rw [List.drop_eq_getElem_cons ha, List.drop_eq_getElem_cons hb, List.getD_eq_getElem?_getD, List.getD_eq_getElem?_getD, List.getElem?_eq_getElem ha, List.getElem?_eq_getElem hb]
  rfl
theorem rank_neD {x y : UInt8} (h : x ≠ y) : rankF x ≠ rankF y := fun e => h (by
  unfold rankF at e
  split at e <;> split at e
  · rename_i h1 h2
    rw [h1, h2]
  · omega
  · omega
  · exact UInt8.toNat_inj.1 (by omega))
theorem rank_inD (x : UInt8) : -1 ≤ rankF x ∧ rankF x ≤ 255 := by
  have := x.toNat_lt
  unfold rankF
  split <;> omega
theorem cmpB_endD (a b : List UInt8) (i : Nat) (h : i = min a.length b.length) : cmpB (a.drop i) (b.drop i) = Lib.compareInt a.length b.length := by
  unfold Lib.compareInt
  by_cases h1 : a.length < b.length
  · rw [if_pos (by omega), List.drop_eq_nil_iff.2 (by omega)]
    rcases hb : b.drop i with _ | ⟨y, r⟩
    · have := List.drop_eq_nil_iff.1 hb
      omega
    · rfl
  · rw [if_neg (by omega), List.drop_eq_nil_iff.2 (show b.length ≤ i by omega)]
    rcases ha : a.drop i with _ | ⟨y, r⟩
    · have := List.drop_eq_nil_iff.1 ha
      rw [if_neg (by omega)]
      rfl
    · have : i < a.length := by
        rcases Nat.lt_or_ge i a.length with g | g
        · exact g
        · rw [List.drop_eq_nil_iff.2 g] at ha
          cases ha
      rw [if_pos (by omega)]
      rfl
set_option maxRecDepth 20000 in
set_option maxHeartbeats 4000000 in
/-- Two texts in order: it draws, no more. -/
theorem pcompareD (x y : List UInt8) (w : World) (hx : x.length ≤ 100000) : Calls Try.prog 26 #[.string (tx x), .string (tx y)] w fun e w' => e = .returned (.int .i64 (cmpF (partsF x) (partsF y))) ∧ Gn w w' := by
  have HU : Hid (cmpF (partsF x) (partsF y) = cmpB x y) := Lib.hid (cmp_parts x y)
  have HD : Hid (∀ i, i < x.length → i < y.length → cmpB (x.drop i) (y.drop i) = if x.getD i 0 = y.getD i 0 then cmpB (x.drop (i + 1)) (y.drop (i + 1)) else if rankF (x.getD i 0) < rankF (y.getD i 0) then -1 else 1) := Lib.hid fun i => cmpB_dropD x y i
  have HE : Hid (∀ i, i = min x.length y.length → cmpB (x.drop i) (y.drop i) = Lib.compareInt x.length y.length) := Lib.hid fun i => cmpB_endD x y i
  have hz : (tx x).size = x.length := tx_size x
  have hz2 : (tx y).size = y.length := tx_size y
  generalize x.length = N at hz hx HD HE
  generalize y.length = M at hz2 HD HE
  obtain ⟨m, hm⟩ : ∃ m, min N M = m := ⟨_, rfl⟩
  have hmN : m ≤ N := by omega
  have hmM : m ≤ M := by omega
  have hmi : min (N : Int) (M : Int) = (m : Int) := by omega
  rw [hm] at HE
  have HM := Lib.hid hm
  clear hm
  go_enter Try.func26, Try.ntmps26
  go_wp2_with fail
  go_loopg [11] m (fun gk u wx => ∃ i : Nat, u = .int .i64 i ∧ i + gk = m ∧ Hid (cmpB x y = cmpB (x.drop i) (y.drop i)) ∧ ∃ q, wx = w.drewN q)
  case atStart => exact ⟨0, rfl, by omega, Lib.hid rfl, 0, rfl⟩
  case round =>
    obtain ⟨i, rfl, hi, HC, q, rfl⟩ := hrel
    by_cases hlt : i < m
    · have l4 : (i : Int) < (m : Int) := by omega
      have hlN : i < N := by omega
      have hlM : i < M := by omega
      have hlx : i < (tx x).size := by omega
      have hly : i < (tx y).size := by omega
      obtain ⟨b, hb⟩ : ∃ b, (tx x)[i]'hlx = b := ⟨_, rfl⟩
      obtain ⟨c, hc⟩ : ∃ c, (tx y)[i]'hly = c := ⟨_, rfl⟩
      have HS := Lib.hid (HD.out i (by omega) (by omega))
      rw [show x.getD i 0 = b by rw [← hb, tx_byte], show y.getD i 0 = c by rw [← hc, tx_byte]] at HS
      by_cases hbc : b = c
      · subst hbc
        have HC2 : Hid (cmpB x y = cmpB (x.drop (i + 1)) (y.drop (i + 1))) := Lib.hid (by rw [HC.out, HS.out, if_pos rfl])
        clear HS HC HD HE
        go_upto_region 4 with fail
        go_quiet (fail)
        go_wp2_with fail
        go_roundg (gk - 1)
        case measure => omega
        case rel => exact ⟨i + 1, by go_num, by omega, HC2, _, rfl⟩
      · have hne : ¬ (b.toNat : Int) = (c.toNat : Int) := fun e => hbc (UInt8.toNat_inj.1 (by omega))
        have hne2 : ((b.toNat : Int) == (c.toNat : Int)) = false := by rw [beq_eq_false_iff_ne]; exact hne
        have HR : Hid (Lib.compareInt (rankF b) (rankF c) = cmpB x y) := Lib.hid (by
          rw [HC.out, HS.out, if_neg hbc]
          unfold Lib.compareInt
          by_cases hr : rankF b < rankF c
          · rw [if_pos hr, if_pos hr]
          · have := rank_neD hbc
            rw [if_neg hr, if_neg hr, if_pos (by omega)])
        have CB : Hid (∀ (w0 : World) (k : Nat), Calls Try.prog 38 #[.int .u8 b.toNat] (w0.drewN k) fun e w' => e = .returned (.int .i64 (rankF b)) ∧ ∃ n, w' = w0.drewN n) := Lib.hid fun w0 k => (prankD b (w0.drewN k)).mono fun e w' h => ⟨h.1, k, h.2⟩
        have CC : Hid (∀ (w0 : World) (k : Nat), Calls Try.prog 38 #[.int .u8 c.toNat] (w0.drewN k) fun e w' => e = .returned (.int .i64 (rankF c)) ∧ ∃ n, w' = w0.drewN n) := Lib.hid fun w0 k => (prankD c (w0.drewN k)).mono fun e w' h => ⟨h.1, k, h.2⟩
        have CI : Hid (∀ (w0 : World) (k : Nat), Calls Try.prog 27 #[.int .i64 (rankF b), .int .i64 (rankF c)] (w0.drewN k) fun e w' => e = .returned (.int .i64 (Lib.compareInt (rankF b) (rankF c))) ∧ ∃ n, w' = w0.drewN n) := Lib.hid fun w0 k => (Try.cmp_Compare_int (rankF b) (rankF c) (w0.drewN k)).mono fun e w' h => ⟨h.1, k, h.2⟩
        have hr1 := rank_inD b
        have hr2 := rank_inD c
        generalize rankF b = rb at CB CI HR hr1
        generalize rankF c = rc at CC CI HR hr2
        generalize Lib.compareInt rb rc = C at CI HR
        clear HS HC HD HE
        go_upto_region 4 with fail
        go_quiet (fail)
        have HO2 : Hid (Gn w ((w.drewN q).drewN nq)) := Lib.hid ((Gn.drawn w _).drewN _)
        generalize (w.drewN q).drewN nq = wz at HO2 ⊢
        go_upto_region 5 with fail
        go_quiet ((first | (go_at_call 27; exact CI.out _ _) | (go_at_call 38; first | exact CB.out _ _ | exact CC.out _ _)))
        go_wp2
        go_ret
        rw [HU.out, ← HR.out]
        exact ⟨rfl, HO2.out.drewN _⟩
    · obtain rfl : i = m := by omega
      have HR : Hid (Lib.compareInt N M = cmpB x y) := Lib.hid (by rw [HC.out]; exact (HE.out i rfl).symm)
      have CI := Lib.hid (Try.cmp_Compare_int N M (w.drewN q))
      generalize Lib.compareInt N M = C at CI HR
      go_wp2_with fail
      refine CI.out.mono ?_
      rintro e _ ⟨rfl, rfl⟩
      go_wp2
      go_ret
      rw [HU.out, ← HR.out]
      exact ⟨rfl, Gn.drawn w q⟩

set_option maxHeartbeats 2000000 in
/-- The first of two numbers that is not 0. -/
theorem por (x y : Int) (b : Nat) (w : World) (hb : Is w b 3 [.int .i64 x, .int .i64 y]) : Calls Try.prog 25 #[.slice (some ⟨b, 0, none⟩) 2 2] w fun e w' => e = .returned (.int .i64 (orF x y)) ∧ w' = w := by
  have d0 := hb.cell 0 rfl
  have d1 := hb.cell 1 rfl
  clear hb
  by_cases h : x = 0
  · subst h
    have e : orF 0 y = y := if_pos rfl
    rw [e]
    by_cases h2 : y = 0
    · subst h2
      go_enter Try.func25, Try.ntmps25
      go_wp2
      refine wp_loop_rounds 3 ?_
      rw [rounds_succ]
      go_wp2
      rw [rounds_succ]
      go_wp2
      rw [rounds_succ]
      go_wp2
      go_ret
      exact ⟨rfl, rfl⟩
    · have q : (y == 0) = false := by rw [beq_eq_false_iff_ne]; exact h2
      go_enter Try.func25, Try.ntmps25
      go_wp2
      refine wp_loop_rounds 2 ?_
      rw [rounds_succ]
      go_wp2
      rw [rounds_succ]
      go_wp2
      go_ret
      exact ⟨rfl, rfl⟩
  · have q : (x == 0) = false := by rw [beq_eq_false_iff_ne]; exact h
    have e : orF x y = x := if_neg h
    rw [e]
    go_enter Try.func25, Try.ntmps25
    go_wp2
    refine wp_loop_rounds 1 ?_
    rw [rounds_succ]
    go_wp2
    go_ret
    exact ⟨rfl, rfl⟩

/-- A seat's two cells. -/
def seaV (s : Sea) : List Value := [.string (tx s.1), .int .i64 (s.2 : Nat)]
set_option maxRecDepth 20000 in
set_option maxHeartbeats 4000000 in
/-- Two seats in order. -/
theorem pcmpS (s t : Sea) (w : World) (hs : s.1.length ≤ 100000) : Calls Try.prog 21 #[.agg (seaV s).toArray, .agg (seaV t).toArray] w fun e w' => e = .returned (.int .i64 (cfS s t)) ∧ Gn w w' := by
  obtain ⟨x, p⟩ := s
  obtain ⟨y, q⟩ := t
  have HC : Hid (∀ W, Calls Try.prog 26 #[.string (tx x), .string (tx y)] W fun e w' => e = .returned (.int .i64 (cmpF (partsF x) (partsF y))) ∧ Gn W w') := Lib.hid fun W => pcompareD x y W hs
  have HI : Hid (∀ W, Calls Try.prog 27 #[.int .i64 (p : Nat), .int .i64 (q : Nat)] W fun e w' => e = .returned (.int .i64 (Lib.compareInt (p : Nat) (q : Nat))) ∧ w' = W) := Lib.hid fun W => Try.cmp_Compare_int _ _ W
  have HE : Hid (cfS (x, p) (y, q) = orF (cmpF (partsF x) (partsF y)) (Lib.compareInt (p : Nat) (q : Nat))) := Lib.hid rfl
  generalize cmpF (partsF x) (partsF y) = c1 at HC HE
  generalize Lib.compareInt (p : Nat) (q : Nat) = c2 at HI HE
  clear hs
  show Calls Try.prog 21 #[.agg #[.string (tx x), .int .i64 (p : Nat)], .agg #[.string (tx y), .int .i64 (q : Nat)]] w _
  go_enter Try.func21, Try.ntmps21
  go_upto_region 1 with fail
  obtain ⟨w2, hw2⟩ : ∃ w2, (w.alloc (.cells #[.string (tx x), .int .i64 (p : Nat)] 41)).alloc (.cells #[.string (tx y), .int .i64 (q : Nat)] 41) = w2 := ⟨_, rfl⟩
  have g2 : Gn w w2 := hw2 ▸ ((Gn.laid w _).alloc _)
  have i0 : Is w2 w.heap.size 41 [.string (tx x), .int .i64 (p : Nat)] := hw2 ▸ (Is.new w _ _).alloc _
  have i1 : Is w2 (w.heap.size + 1) 41 [.string (tx y), .int .i64 (q : Nat)] := hw2 ▸ Is.new2 w _ _ _
  rw [hw2]
  clear hw2
  refine Steps.region (fun W => Gn w2 W ∧ W.cell? ⟨w.heap.size, 0, none⟩ = some (.string (tx x)) ∧ W.cell? ⟨w.heap.size + 1, 0, none⟩ = some (.string (tx y)) ∧ W.cell? ⟨w.heap.size, 1, none⟩ = some (.int .i64 (p : Nat)) ∧ W.cell? ⟨w.heap.size + 1, 1, none⟩ = some (.int .i64 (q : Nat))) [(true, 0), (true, 1), (true, 2), (true, 3), (true, 5), (true, 6), (true, 7), (true, 8), (false, 4), (false, 9), (false, 10), (false, 11), (true, 12)] (by kernel_rfl) (by kernel_rfl) rfl (by kernel_rfl) (fun _ _ d _ _ h => by cases d <;> exact h) ?_
  have HS : Hid (∀ W, Gn w2 W → Gn w2 W ∧ W.cell? ⟨w.heap.size, 0, none⟩ = some (.string (tx x)) ∧ W.cell? ⟨w.heap.size + 1, 0, none⟩ = some (.string (tx y)) ∧ W.cell? ⟨w.heap.size, 1, none⟩ = some (.int .i64 (p : Nat)) ∧ W.cell? ⟨w.heap.size + 1, 1, none⟩ = some (.int .i64 (q : Nat))) := Lib.hid fun W h => ⟨h, (i0.only h.only fun f => f).cell 0 rfl, (i1.only h.only fun f => f).cell 0 rfl, (i0.only h.only fun f => f).cell 1 rfl, (i1.only h.only fun f => f).cell 1 rfl⟩
  have hS := HS.out _ ((Gn.refl w2).drew)
  refine Steps.take (.pointer (some ⟨w.heap.size, 0, none⟩)) rfl hS (fun W hW => by kernel_rfl) ?_
  simp only [Act.put, List.setIfInBounds_toArray, List.set_cons_succ, List.set_cons_zero]
  refine Steps.take (.string (tx x)) rfl hS (fun W hW => by have c := hW.2.1; go_simp) ?_
  simp only [Act.put, List.setIfInBounds_toArray, List.set_cons_succ, List.set_cons_zero]
  refine Steps.take (.pointer (some ⟨w.heap.size + 1, 0, none⟩)) rfl hS (fun W hW => by kernel_rfl) ?_
  simp only [Act.put, List.setIfInBounds_toArray, List.set_cons_succ, List.set_cons_zero]
  refine Steps.take (.string (tx y)) rfl hS (fun W hW => by have c := hW.2.2.1; go_simp) ?_
  simp only [Act.put, List.setIfInBounds_toArray, List.set_cons_succ, List.set_cons_zero]
  refine Steps.take (.pointer (some ⟨w.heap.size, 1, none⟩)) rfl hS (fun W hW => by kernel_rfl) ?_
  simp only [Act.put, List.setIfInBounds_toArray, List.set_cons_succ, List.set_cons_zero]
  refine Steps.take (.int .i64 (p : Nat)) rfl hS (fun W hW => by have c := hW.2.2.2.1; go_simp) ?_
  simp only [Act.put, List.setIfInBounds_toArray, List.set_cons_succ, List.set_cons_zero]
  refine Steps.take (.pointer (some ⟨w.heap.size + 1, 1, none⟩)) rfl hS (fun W hW => by kernel_rfl) ?_
  simp only [Act.put, List.setIfInBounds_toArray, List.set_cons_succ, List.set_cons_zero]
  refine Steps.take (.int .i64 (q : Nat)) rfl hS (fun W hW => by have c := hW.2.2.2.2; go_simp) ?_
  simp only [Act.put, List.setIfInBounds_toArray, List.set_cons_succ, List.set_cons_zero]
  refine Steps.call 26 #[.string (tx x), .string (tx y)] rfl (by kernel_rfl) ((HC.out _).mono ?_)
  rintro e w3 ⟨rfl, g3⟩
  have G3 := (Gn.refl w2).drew.trans g3
  refine ⟨_, rfl, HS.out _ G3, ?_⟩
  simp only [Act.put, List.setIfInBounds_toArray, List.set_cons_succ, List.set_cons_zero]
  refine Steps.call 27 #[.int .i64 (p : Nat), .int .i64 (q : Nat)] rfl (by kernel_rfl) ((HI.out _).mono ?_)
  rintro e w3b ⟨rfl, hw3⟩
  rw [hw3]
  refine ⟨_, rfl, HS.out _ G3, ?_⟩
  simp only [Act.put, List.setIfInBounds_toArray, List.set_cons_succ, List.set_cons_zero]
  refine Steps.alone (.slice (some ⟨w3.heap.size, 0, none⟩) 2 2) rfl (w' := w3.alloc (.cells #[.int .i64 c1, .int .i64 c2] 3)) (by go_simp) (HS.out _ (G3.alloc _)) ?_
  simp only [Act.put, List.setIfInBounds_toArray, List.set_cons_succ, List.set_cons_zero]
  refine Steps.call 25 #[.slice (some ⟨w3.heap.size, 0, none⟩) 2 2] rfl (by kernel_rfl) ((por c1 c2 w3.heap.size _ (Is.new w3 _ _)).mono ?_)
  rintro e w4b ⟨rfl, hw4⟩
  rw [hw4]
  have hS4 := HS.out _ (G3.alloc (.cells #[.int .i64 c1, .int .i64 c2] 3))
  refine ⟨_, rfl, hS4, ?_⟩
  simp only [Act.put, List.setIfInBounds_toArray, List.set_cons_succ, List.set_cons_zero]
  refine Steps.take (.int .i64 (orF c1 c2)) rfl hS4 (fun W hW => by kernel_rfl) ?_
  simp only [Act.put, List.setIfInBounds_toArray, List.set_cons_succ, List.set_cons_zero]
  show wpList _ _ _ _ _ _
  have HG := Lib.hid (g2.trans hS4.1)
  clear hS hS4 i0 i1
  generalize w3.alloc _ = w4 at HG ⊢
  go_wp2
  go_ret
  rw [HE.out]
  exact ⟨rfl, HG.out⟩
end Go.Proofs.Ytmdfkchgklphlaa
