/- Layer 8, the program: the lengths of kind 1, and two tables of lengths. -/
import Derived.Test.YtackcgiokkbhdaaDoorCoded
namespace Go.Proofs.YtackcgiokkbhdaaDoor
open Go.RowKit

/-- append of so many zeros to no row (what Grow does). -/
theorem run_append_zeros (n : Nat) (ty : TypeId) (w : World) (h1 : 1 ≤ n) (h2 : n ≤ 1000) : ∃ c w', (Builtin.append_ #[26, 3] ty #[.slice none 0 0, .int .i64 n]).run Tryd.prog w = .ok (.slice (some ⟨w.heap.size, 0, none⟩) n c) w' ∧ Row 3 w' (some ⟨w.heap.size, 0, none⟩) 0 c [] ∧ n ≤ c ∧ Only (fun _ => False) w w' := by
  obtain ⟨i, hi, hz, hsz, hby⟩ := info_parts info3
  have hge := grownCap_ge w n 0 3
  have hle := grownCap_le_maxLen w n 0 3 (by unfold maxLen; omega)
  have hfit := growslice_fits (need := n) (old := 0) (bytes := i.bytes) (by omega) (by rw [hby]; omega)
  have e1 : IntKind.i64.wrap (n : Int) = (n : Int) := IntWalk.i64_in _ (by omega)
  refine ⟨grownCap w n 0 3, w.drew.alloc (.cells ((Builtin.zeroCells (Value.int .i64 0).cells n) ++ Builtin.zeroCells (Value.int .i64 0).cells (grownCap w n 0 3 - n)) 3), ?_, ?_, hge, ((Only.refl _ w).drew).alloc _⟩
  · have q1 : ¬ ((n : Int) < 0) := by omega
    have q2 : ¬ (281474976710656 < (n : Int) * (i.bytes : Nat)) := by rw [hby]; omega
    have q4 : ¬ (9223372036854775807 < (n : Int)) := by omega
    have q5 : ¬ (281474976710656 < Builtin.nextslicecap n 0 * i.bytes) := by omega
    have q6 : ¬ n = 0 := by omega
    have hk : Tryd.prog.underlying 3 = some (.int .i64) := Tryd.underlying3
    simp [Builtin.append_, run_underlying Tryd.underlying26, run_underlying hk, sizeOf, typeInfo, zeroValue, hi, hz, hsz, q1, q2, q4, q5, q6, e1, asInt, asIntOf, Question.forced, newRow, grownCap, Builtin.firstCells]
  · refine ⟨rfl, .inr ⟨w.heap.size, _, (0, 0), rfl, heap_alloc_new w.drew _, Nat.zero_le _, hle, ?_, by simp, fun i _ => by simp⟩⟩
    simp [size_zeroCells, Value.cells]
    omega
theorem wpList_append_run {P : Program} {w w' : World} {ops : Array Oper} {rest : List Oper} {o : Oper} {a : Act} {Q : Exit → Act → World → Prop} (hgd : o.guard = none) (d s : Operand) (t t' : TypeId)
    (ho : o.op = .call { callee := .builtin .append, args := #[d, s], argTypes := #[t, t'] }) (v u : Value) (hd : a.eval d = v) (hs : a.eval s = u) {v' : Value}
    (hr : (Builtin.append_ #[t, t'] o.type #[v, u]).run P w = .ok v' w') (h : wpList P ops Q rest (a.put o.dst v') w') : wpList P ops Q (o :: rest) a w := by
  refine wpList_plain hgd fun K hK => ?_
  unfold Oper.wp execOp
  simp only [ho, resolve, invoke, builtin, Sem.run_bind, Sem.run_pure, Result.andThen_ok, List.map_toArray, List.map_cons, List.map_nil, hd, hs, hr]
  exact hK _ _ h

def GrowPost (w : World) (e : Ending) (w' : World) : Prop := ∃ g c, e = .returned (.slice (some ⟨g, 0, none⟩) 0 c) ∧ Made 3 w (some ⟨g, 0, none⟩) 0 c [] w'
set_option maxRecDepth 20000 in
set_option maxHeartbeats 1000000 in
theorem grow (n : Nat) (w : World) (h1 : 1 ≤ n) (h2 : n ≤ 1000) : Calls Tryd.prog 93 #[.slice none 0 0, .int .i64 n] w (GrowPost w) := by
  obtain ⟨c, w', hrun, hrow, hc, ho⟩ := run_append_zeros n 26 w h1 h2
  have HM : Hid (Made 3 w (some ⟨w.heap.size, 0, none⟩) 0 c [] w') := Lib.hid ⟨hrow, ho, by rintro j ⟨ad, e, rfl⟩; obtain rfl := Option.some.inj e; exact Nat.le_refl _⟩
  clear hrow ho
  go_enter Tryd.func93, Tryd.ntmps93
  go_upto_region 5 with fail
  go_wp2_with (at_builtin; refine wpList_append_run rfl (.tmp 20) (.tmp 21) 26 3 rfl _ _ (by rfl) (by rfl) hrun ?_)
  go_ret
  exact ⟨_, _, rfl, HM.out⟩

def catTo (L : List (Nat × List Nat)) (k : Nat) : List Nat := (L.take k).flatMap Prod.snd
theorem catTo_succ (L : List (Nat × List Nat)) (k g : Nat) (l : List Nat) (h : L[k]? = some (g, l)) : catTo L (k + 1) = catTo L k ++ l := by
  unfold catTo
  rw [List.take_add_one, h]
  simp
theorem catTo_mono (L : List (Nat × List Nat)) (k : Nat) : ∀ d, (catTo L k).length ≤ (catTo L (k + d)).length
  | 0 => Nat.le_refl _
  | d + 1 => by
    refine Nat.le_trans (catTo_mono L k d) ?_
    rcases h : L[k + d]? with _ | ⟨g, l⟩
    · have : L.length ≤ k + d := by simpa using h
      unfold catTo
      rw [List.take_of_length_le this, List.take_of_length_le (by omega)]
      exact Nat.le_refl _
    · rw [← Nat.add_assoc, catTo_succ L (k + d) g l h, List.length_append]
      omega

theorem Made.grow {e : TypeId} {w wx wy : World} {A A' : Option Addr} {n c n' c' : Nat} {l l' : List Value} (h : Made e w A n c l wx) (hr : Row e wy A' n' c' l') (ho : Only (Lies A) wx wy) (ha : A' = A ∨ A' = some ⟨wx.heap.size, 0, none⟩) : Made e w A' n' c' l' wy := by
  refine ⟨hr, h.2.1.andThen ho fun j hj => .inr (h.2.2 j hj), fun j hj => ?_⟩
  rcases ha with e1 | e1
  · exact h.2.2 j (e1 ▸ hj)
  · obtain ⟨ad, e2, e3⟩ := hj
    rw [e1] at e2
    obtain rfl := Option.some.inj e2
    have h1 := h.2.1.size
    have h2 : wx.heap.size = j := e3
    omega
def CatPost (w : World) (l : List Nat) (n : Nat) (e : Ending) (w' : World) : Prop := ∃ A c, e = .returned (.slice A n c) ∧ Made 3 w A n c (ints l) w'
theorem ints_append (a b : List Nat) : ints (a ++ b) = ints a ++ ints b := by simp [ints]

set_option maxRecDepth 20000 in
set_option maxHeartbeats 2000000 in
theorem concat (G m : Nat) (L : List (Nat × List Nat)) (w : World) (hm : L.length = m) (hm2 : m ≤ 1000) (hL : ∀ i g l, L[i]? = some (g, l) → w.cell? ⟨G, i, none⟩ = some (.slice (some ⟨g, 0, none⟩) l.length l.length) ∧ See w w.heap.size (some ⟨g, 0, none⟩) (ints l)) (N : Nat) (hN : (catTo L m).length = N) (hN1 : 1 ≤ N) (hN2 : N ≤ 1000) :
    Calls Tryd.prog 75 #[.slice (some ⟨G, 0, none⟩) m m] w (CatPost w (catTo L m) N) := by
  have HL := Lib.hid hL
  have HM := Lib.hid hm
  have HN := Lib.hid hN
  have hup : Hid (∀ k, k ≤ m → (catTo L k).length ≤ N) := Lib.hid fun k hk => by
    have := catTo_mono L k (m - k)
    rw [show k + (m - k) = m from by omega, hN] at this
    exact this
  have HG := Lib.hid (fun w2 => grow N w2 hN1 hN2)
  clear hL hm hN
  go_enter Tryd.func75, Tryd.ntmps75
  go_wp2_with fail
  go_loopg [3, 5, 11] m (fun gk v u i wx => ∃ k x : Nat, i = .int .i64 k ∧ v = .int .i64 x ∧ k + gk ≤ m ∧ m ≤ k + gk ∧ x ≤ 1000 ∧ Hid ((catTo L k).length = x) ∧ wx = w)
  case atStart => exact ⟨0, 0, rfl, rfl, by omega, by omega, by omega, Lib.hid rfl, rfl⟩
  case round =>
    obtain ⟨k, x, rfl, rfl, hk, hk2, hx, HX, hw⟩ := hrel
    have hw' := hw.symm
    subst hw'
    by_cases hlt : k < m
    · obtain ⟨⟨g, l⟩, hgl⟩ : ∃ q, L[k]? = some q := ⟨L[k]'(by rw [HM.out]; exact hlt), by simp [HM.out, hlt]⟩
      obtain ⟨c1, _⟩ := HL.out k g l hgl
      have hs := catTo_succ L k g l hgl
      have hs2 := hup.out (k + 1) (by omega)
      rw [hs, List.length_append, HX.out] at hs2
      have HS : Hid ((catTo L (k + 1)).length = x + l.length) := Lib.hid (by rw [hs, List.length_append, HX.out])
      obtain ⟨y, hy⟩ : ∃ y, l.length = y := ⟨_, rfl⟩
      rw [hy] at c1 HS hs2
      clear hs hgl HX hy
      go_wp2_with fail
      go_roundg (gk - 1)
      case measure => omega
      case rel => exact ⟨k + 1, x + y, by go_num, by go_num, by omega, by omega, by omega, HS, rfl⟩
    · obtain rfl : k = m := by omega
      have hx2 := HN.out
      rw [HX.out] at hx2
      subst hx2
      clear HX
      go_wp2_with fail
      refine (HG.out _).mono ?_
      rintro e w2 ⟨g0, c0, rfl, hm2⟩
      have HM2 := Lib.hid hm2
      clear hm2 HG
      go_wp2_with fail
      go_loopg [6, 8, 27] k (fun gk v u i wx => ∃ (j z : Nat) (A : Option Addr) (c : Nat), i = .int .i64 j ∧ v = .slice A z c ∧ j + gk ≤ k ∧ k ≤ j + gk ∧ z ≤ 1000 ∧ Hid ((catTo L j).length = z) ∧ Hid (Made 3 w A z c (ints (catTo L j)) wx))
      case atStart => exact ⟨0, 0, _, _, rfl, rfl, by omega, by omega, by omega, Lib.hid rfl, HM2⟩
      case round =>
        clear HM2
        obtain ⟨j, z, A, c, rfl, rfl, hj, hj2, hz, HZ, HMD⟩ := hrel
        by_cases hlt2 : j < k
        · obtain ⟨⟨g, l⟩, hgl⟩ : ∃ q, L[j]? = some q := ⟨L[j]'(by rw [HM.out]; exact hlt2), by simp [HM.out, hlt2]⟩
          obtain ⟨c1, hsee⟩ := HL.out j g l hgl
          have hs := catTo_succ L j g l hgl
          have hs2 := hup.out (j + 1) (by omega)
          rw [hs, List.length_append, HZ.out] at hs2
          have HS : Hid ((catTo L (j + 1)).length = z + l.length) := Lib.hid (by rw [hs, List.length_append, HZ.out])
          have c2 := HMD.out.2.1.cell c1 fun f => f
          have HSE := Lib.hid (See.src (c := l.length) Tryd.underlying26 (hsee.new HMD.out.2.1) (ints_length l) (ints_one l))
          obtain ⟨y, hy⟩ : ∃ y, l.length = y := ⟨_, rfl⟩
          rw [hy] at c1 c2 HS hs2 HSE
          have HY : Hid ((ints l).length = y) := Lib.hid (by rw [ints_length, hy])
          have HCT := Lib.hid hs
          clear hs hgl HZ hy hsee
          go_upto_region 13 with fail
          go_wp2_with (at_builtin
                       refine wpList_append_row rfl (.tmp 31) (.tmp 32) 26 26 3 rfl Tryd.underlying26 info3 A z c y (ints (catTo L j)) (ints l) (.slice (some ⟨g, 0, none⟩) y y) (by rfl) (by rfl) HMD.out.1 HY.out HSE.out (by omega) (by omega) ?_
                       intro A2 c2 w2 hrow2 honly2 hlies2
                       have hrow3 := hrow2
                       rw [← ints_append, ← HCT.out] at hrow3
                       have HM2 : Hid (Made 3 w A2 (z + y) c2 (ints (catTo L (j + 1))) w2) := Lib.hid (HMD.out.grow hrow3 honly2 hlies2)
                       clear hrow2 honly2 hlies2 hrow3)
          go_roundg (gk - 1)
          case measure => omega
          case rel => exact ⟨j + 1, z + y, A2, c2, by go_num, rfl, by omega, by omega, by omega, HS, HM2⟩
        · obtain rfl : j = k := by omega
          have hx2 := HN.out
          rw [HZ.out] at hx2
          subst hx2
          go_wp2
          go_ret
          exact ⟨A, c, rfl, HMD.out⟩
end Go.Proofs.YtackcgiokkbhdaaDoor
