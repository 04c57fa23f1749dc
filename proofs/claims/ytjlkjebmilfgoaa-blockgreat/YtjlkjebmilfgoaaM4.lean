/- Layer 5: whether lengths make a code; regions that draw their order. -/
import Derived.Test.YtjlkjebmilfgoaaM3
import Derived.OrdersHeld
import Derived.RegionTactic
/- Layer 5: which lengths may be, in the program and in the document; the program's counts. -/
namespace Go.Proofs.Ytjlkjebmilfgoaa
open Go.RowKit

theorem info142 : (Try.prog.info? 105).map (·.size) = some 16 := by kernel_rfl

theorem allowed_yes (A : Option Addr) (n c B : Nat) (l : List Nat) (w : World) (h : See w B A (ints l)) (hn : l.length = n) (h288 : n ≤ 288) (hl : Low l) :
    Calls Try.prog 75 #[.slice A n c] w fun e w' => e = .returned (.bool true) ∧ w = w' := by
  have HS := Lib.hid h
  have HL := Lib.hid hl
  have HN := Lib.hid hn
  clear h hl hn
  go_enter Try.func75, Try.ntmps75
  go_wp2_with fail
  go_loopg [10] n (fun gk i wx => ∃ k : Nat, i = .int .i64 k ∧ k + gk ≤ n ∧ n ≤ k + gk ∧ wx = w)
  case atStart => exact ⟨0, rfl, by omega, by omega, rfl⟩
  case round =>
    obtain ⟨k, rfl, hk, hk2, rfl⟩ := hrel
    by_cases hlt : k < n
    · obtain ⟨b, off, rfl, _, hc⟩ := HS.out k _ (ints_at l k (by rw [HN.out]; exact hlt))
      have hx := ln_le l k HL.out
      obtain ⟨x, hx1⟩ : ∃ x, ln l k = x := ⟨_, rfl⟩
      rw [hx1] at hx hc
      have d1 : decide ((x : Int) < 0) = false := by simp
      have d2 : decide (15 < (x : Int)) = false := by simp; omega
      clear hx1
      go_wp2_with fail
      go_roundg (gk - 1)
      case measure => omega
      case rel => exact ⟨k + 1, by go_num, by omega, by omega, rfl⟩
    · go_wp2
      go_ret
      exact ⟨rfl, rfl⟩

theorem allowed_no (A : Option Addr) (n c B : Nat) (z : List Int) (w : World) (h : See w B A (zints z)) (hn : z.length = n) (h300 : n ≤ 300) (hz : ¬ Okay z) :
    Calls Try.prog 75 #[.slice A n c] w fun e w' => e = .returned (.bool false) ∧ w = w' := by
  have HS := Lib.hid h
  have HN := Lib.hid hn
  have HZ := Lib.hid hz
  clear h hn hz
  by_cases hbig : 288 < n
  · go_enter Try.func75, Try.ntmps75
    go_wp2
    go_ret
    exact ⟨rfl, rfl⟩
  · go_enter Try.func75, Try.ntmps75
    go_wp2_with fail
    go_loopg [10] n (fun gk i wx => ∃ k : Nat, i = .int .i64 k ∧ k + gk ≤ n ∧ n ≤ k + gk ∧ wx = w ∧ Hid (∀ j, j < k → 0 ≤ z.getD j 0 ∧ z.getD j 0 ≤ 15))
    case atStart => exact ⟨0, rfl, by omega, by omega, rfl, Lib.hid fun j hj => by omega⟩
    case round =>
      obtain ⟨k, rfl, hk, hk2, rfl, HJ⟩ := hrel
      by_cases hlt : k < n
      · obtain ⟨b, off, rfl, _, hc⟩ := HS.out k _ (zints_at z k (by rw [HN.out]; exact hlt))
        obtain ⟨x, hx1⟩ : ∃ x, z.getD k 0 = x := ⟨_, rfl⟩
        rw [hx1] at hc
        have HX := Lib.hid hx1
        clear hx1
        by_cases h1 : x < 0
        · have d1 : decide (x < 0) = true := by simpa using h1
          go_wp2
          go_ret
          exact ⟨rfl, rfl⟩
        · have d1 : decide (x < 0) = false := by simpa using h1
          by_cases h2 : 15 < x
          · have d2 : decide (15 < x) = true := by simpa using h2
            go_wp2
            go_ret
            exact ⟨rfl, rfl⟩
          · have d2 : decide (15 < x) = false := by simpa using h2
            go_wp2_with fail
            go_roundg (gk - 1)
            case measure => omega
            case rel =>
              refine ⟨k + 1, by go_num, by omega, by omega, rfl, Lib.hid fun j hj => ?_⟩
              rcases Nat.lt_or_ge j k with h3 | h3
              · exact HJ.out j h3
              · obtain rfl : j = k := by omega
                rw [HX.out]
                omega
      · exfalso
        refine HZ.out ⟨by rw [HN.out]; omega, fun x hx => ?_⟩
        obtain ⟨j, hj, rfl⟩ := List.getElem_of_mem hx
        have := HJ.out j (by have := HN.out; omega)
        simpa [hj] using this

end Go.Proofs.Ytjlkjebmilfgoaa

/- Layer 5: the program's counts of lengths, and its Check. -/
namespace Go.Proofs.Ytjlkjebmilfgoaa
open Go.RowKit

/-- How many have each length up to 15. -/
def cnts (l : List Nat) : List Nat := (List.range 16).map (cn l)
theorem cnts_length (l : List Nat) : (cnts l).length = 16 := by simp [cnts]
theorem cn_take (l : List Nat) (k j : Nat) (h : k < l.length) : cn (l.take (k + 1)) j = cn (l.take k) j + if ln l k = j ∧ j ≠ 0 then 1 else 0 := by
  have h3 : l.take (k + 1) = l.take k ++ [ln l k] := by rw [List.take_add_one]; simp [ln, h]
  unfold cn
  by_cases hj : j = 0
  · simp [hj]
  · by_cases hx : ln l k = j
    · rw [h3]; simp [hj, hx, List.count_append]
    · rw [h3]; simp [hj, hx, List.count_append]
theorem cnts_take (l : List Nat) (k : Nat) (h : k < l.length) (h0 : 0 < ln l k) : (cnts (l.take k)).set (ln l k) (cn (l.take k) (ln l k) + 1) = cnts (l.take (k + 1)) := by
  refine map_set 16 _ _ _ _ ?_ fun t _ ht => ?_
  · rw [cn_take l k _ h, if_pos ⟨rfl, by omega⟩]
  · rw [cn_take l k _ h, if_neg (fun x => ht x.1.symm), Nat.add_zero]
theorem cnts_take0 (l : List Nat) (k : Nat) (h : k < l.length) (h0 : ln l k = 0) : cnts (l.take (k + 1)) = cnts (l.take k) := by
  refine map_same 16 _ _ fun t _ => ?_
  rw [cn_take l k _ h, if_neg (fun x => x.2 (by omega)), Nat.add_zero]
theorem index16 (f : Nat → Nat) (k : Nat) (h : k < 16) (W : World) : (Instr.index 105 (.agg (ints ((List.range 16).map f)).toArray) (.int .i64 (k : Int))).run Try.prog W = .ok (.int .i64 (f k : Nat)) W := by
  obtain rfl | rfl | rfl | rfl | rfl | rfl | rfl | rfl | rfl | rfl | rfl | rfl | rfl | rfl | rfl | rfl : k = 0 ∨ k = 1 ∨ k = 2 ∨ k = 3 ∨ k = 4 ∨ k = 5 ∨ k = 6 ∨ k = 7 ∨ k = 8 ∨ k = 9 ∨ k = 10 ∨ k = 11 ∨ k = 12 ∨ k = 13 ∨ k = 14 ∨ k = 15 := by omega
  all_goals kernel_rfl

def CountPost (w : World) (l : List Nat) (e : Ending) (w' : World) : Prop := e = .returned (.agg (ints (cnts l)).toArray) ∧ Only (fun _ => False) w w'
def CountAt (w : World) (H : Nat) (l : List Nat) (k : Nat) (wx : World) : Prop := Is wx (H + 1) 105 (ints (cnts (l.take k))) ∧ Is wx H 105 (List.replicate 16 (.int .i64 0)) ∧ Only (fun _ => False) w wx

set_option maxHeartbeats 2000000 in
theorem count (A : Option Addr) (n c B : Nat) (l : List Nat) (w : World) (h : See w B A (ints l)) (hn : l.length = n) (h288 : n ≤ 288) (hl : Low l) :
    Calls Try.prog 63 #[.slice A n c] w (CountPost w l) := by
  have HS := Lib.hid h
  have HL := Lib.hid hl
  have HN := Lib.hid hn
  clear h hl hn
  go_enter Try.func63, Try.ntmps63
  go_wp2_with fail
  have hst : CountAt w w.heap.size l 0 ((w.alloc (.cells (List.replicate 16 (Value.int .i64 0)).toArray 105)).alloc (.cells (List.replicate 16 (Value.int .i64 0)).toArray 105)) :=
    ⟨Is.new2 w _ 105 _, (Is.new w 105 _).alloc _, ((Only.refl _ w).alloc _).alloc _⟩
  obtain ⟨H, hH⟩ : ∃ H, w.heap.size = H := ⟨_, rfl⟩
  rw [hH] at hst
  have HST := Lib.hid hst
  clear hst
  have HH := Lib.hid hH
  try rw [hH]
  clear hH
  go_loopg [8] n (fun gk i wx => ∃ k : Nat, i = .int .i64 k ∧ k + gk ≤ n ∧ n ≤ k + gk ∧ CountAt w H l k wx)
  case atStart => exact ⟨0, rfl, by omega, by omega, HST.out⟩
  case round =>
    clear HST
    obtain ⟨k, rfl, hk, hk2, hI⟩ := hrel
    by_cases hlt : k < n
    · obtain ⟨b, off, rfl, _, hc⟩ := (HS.out.new hI.2.2) k _ (ints_at l k (by rw [HN.out]; exact hlt))
      have hx := ln_le l k HL.out
      have hmore := cnts_take l k (by rw [HN.out]; exact hlt)
      have hsame := cnts_take0 l k (by rw [HN.out]; exact hlt)
      obtain ⟨x, hx1⟩ : ∃ x, ln l k = x := ⟨_, rfl⟩
      rw [hx1] at hx hc hmore hsame
      clear hx1
      by_cases h0 : 0 < x
      · have c1 := hI.1.cell x (ints_at _ x (by rw [cnts_length]; omega))
        have c2 := hI.1.frozen x
        rw [show ln (cnts (l.take k)) x = cn (l.take k) x from map_at 16 _ x (by omega)] at c1
        have hy := cn_le (l.take k) x
        have hy2 : (l.take k).length ≤ 288 := by rw [List.length_take]; omega
        obtain ⟨y, hy1⟩ : ∃ y, cn (l.take k) x = y := ⟨_, rfl⟩
        rw [hy1] at c1 hy hmore
        have hy3 : y ≤ 288 := by omega
        have HM := Lib.hid (hmore h0)
        have HI := Lib.hid hI
        clear hy1 hmore hsame hI hy hy2
        go_wp2_with fail
        go_roundg (gk - 1)
        case measure => omega
        case rel =>
          refine ⟨k + 1, by go_num, by omega, by omega, ?_, HI.out.2.1.far (p := ⟨H + 1, x, none⟩) (by simp) _, HI.out.2.2.set (p := ⟨H + 1, x, none⟩) (.inr (by have := HH.out; simp; omega)) _⟩
          rw [← HM.out, ← ints_set]
          exact HI.out.1.set x _
      · obtain rfl : x = 0 := by omega
        have HM := Lib.hid (hsame rfl)
        have HI := Lib.hid hI
        clear hmore hsame hI
        go_wp2_with fail
        go_roundg (gk - 1)
        case measure => omega
        case rel =>
          refine ⟨k + 1, by go_num, by omega, by omega, ?_⟩
          unfold CountAt
          rw [HM.out]
          exact HI.out
    · have ht : l.take k = l := List.take_of_length_le (by rw [HN.out]; omega)
      obtain ⟨h1, h2, h3⟩ := hI
      rw [ht] at h1
      have H1 := Lib.hid h1
      have H2 := Lib.hid h2
      have H3 := Lib.hid h3
      have hlen : (ints (cnts l)).length = 16 := by rw [ints_length, cnts_length]
      have HLn := Lib.hid hlen
      clear h1 h2 h3 ht hlen
      go_wp2_with (first
        | ((with_reducible show wpList _ _ _ (Oper.mk _ (Op.load _ _) _ _ _ _ :: _) _ _); refine wpList_load_is rfl 105 (.tmp 3) rfl (H + 1) rfl 105 _ H1.out Try.underlying105 (by rw [HLn.out]; exact info142) ?_)
        | ((with_reducible show wpList _ _ _ (Oper.mk _ (Op.store _ _ _) _ _ _ _ :: _) _ _); refine wpList_store_row rfl 105 (.tmp 2) (.tmp 20) rfl H _ rfl rfl 105 _ H2.out (by rw [List.size_toArray, HLn.out]; exact info142) (by rw [List.size_toArray, List.size_toArray, HLn.out]; rfl) (all_oneCell_toArray (ints_one _)) ?_))
      refine bodyPost_ret (results_cell_row rfl _ _ H 105 _ (0, 0) _ rfl (H2.out.row _) Try.underlying105 rfl (by rw [List.size_toArray, HLn.out]; exact info142)) rfl ?_
      exact ⟨rfl, H3.out.row (.inr (by have := HH.out; omega)) _⟩

theorem st_small (l : List Nat) (h : l.length ≤ 288) : ∀ k, k ≤ 16 → st l k ≤ 288 * k
  | 0, _ => Nat.le_refl _
  | k + 1, hk => by
    have h1 := st_small l h k (by omega)
    have h2 := cn_le l k
    rw [st]
    omega
theorem fu_small (l : List Nat) (h : l.length ≤ 288) : ∀ k, k ≤ 16 → fu l k ≤ 9437184 * k
  | 0, _ => Nat.le_refl _
  | k + 1, hk => by
    have h1 := fu_small l h k (by omega)
    have h2 := cn_le l k
    have h3 : 2 ^ (15 - k) ≤ 2 ^ 15 := Nat.pow_le_pow_right (by decide) (by omega)
    have h4 : cn l k * 2 ^ (15 - k) ≤ 288 * 2 ^ 15 := Nat.mul_le_mul (by omega) h3
    rw [fu]
    omega

set_option maxHeartbeats 1000000 in
theorem used (l : List Nat) (w : World) (h288 : l.length ≤ 288) :
    Calls Try.prog 76 #[.agg (ints (cnts l)).toArray] w fun e w' => e = .returned (.int .i64 (st l 16 : Nat)) ∧ Only (fun _ => False) w w' := by
  obtain ⟨cs, hcs⟩ : ∃ cs, ints (cnts l) = cs := ⟨_, rfl⟩
  have hlen : cs.length = 16 := by rw [← hcs, ints_length, cnts_length]
  have hix : ∀ k : Nat, k < 16 → ∀ W : World, (Instr.index 105 (.agg cs.toArray) (.int .i64 (k : Int))).run Try.prog W = .ok (.int .i64 (cn l k : Nat)) W := by
    intro k hk W
    rw [← hcs]
    exact index16 (cn l) k hk W
  have hsm := fun k (hk : k ≤ 16) => st_small l h288 k hk
  have hone : ∀ v ∈ cs, v.oneCell' = true := by rw [← hcs]; exact ints_one _
  rw [hcs]
  have HX := Lib.hid hix
  have HSM := Lib.hid hsm
  have HLn := Lib.hid hlen
  have HON := Lib.hid hone
  clear hcs hix hsm hlen hone
  go_enter Try.func76, Try.ntmps76
  go_wp2_with (first
    | ((with_reducible show wpList _ _ _ (Oper.mk _ (Op.load _ _) _ _ _ _ :: _) _ _); refine wpList_load_is rfl 105 (.tmp 1) rfl w.heap.size rfl 105 cs (Is.new w 105 cs) Try.underlying105 (by rw [HLn.out]; exact info142) ?_))
  have HO : Hid (Only (fun _ => False) w (w.alloc (.cells cs.toArray 105))) := (Only.refl _ w).alloc _
  obtain ⟨wa, hwa⟩ : ∃ wa, w.alloc (.cells cs.toArray 105) = wa := ⟨_, rfl⟩
  rw [hwa] at HO
  rw [hwa]
  clear hwa
  go_loopg [3, 7] 16 (fun gk v i wx => ∃ k : Nat, i = .int .i64 k ∧ v = .int .i64 (st l k : Nat) ∧ k + gk ≤ 16 ∧ 16 ≤ k + gk ∧ wx = wa)
  case atStart => exact ⟨0, rfl, rfl, by omega, by omega, rfl⟩
  case round =>
    obtain ⟨k, rfl, rfl, hk, hk2, rfl⟩ := hrel
    by_cases hlt : k < 16
    · have c1 := HX.out k hlt
      have h1 := HSM.out k (by omega)
      have h2 := cn_le l k
      have h3 : st l (k + 1) = st l k + cn l k := rfl
      obtain ⟨x, hx⟩ : ∃ x, cn l k = x := ⟨_, rfl⟩
      obtain ⟨y, hy⟩ : ∃ y, st l k = y := ⟨_, rfl⟩
      rw [hx] at c1 h2 h3
      rw [hy] at h1 h3 ⊢
      have H3 := Lib.hid h3
      clear hx hy h3
      go_wp2_with fail
      go_roundg (gk - 1)
      case measure => omega
      case rel => exact ⟨k + 1, by go_num, by rw [H3.out]; go_num, by omega, by omega, rfl⟩
    · obtain rfl : k = 16 := by omega
      go_wp2
      go_ret
      exact ⟨rfl, HO.out⟩

set_option maxHeartbeats 1000000 in
theorem howFull (l : List Nat) (w : World) (h288 : l.length ≤ 288) :
    Calls Try.prog 77 #[.agg (ints (cnts l)).toArray] w fun e w' => e = .returned (.int .i64 (fu l 16 : Nat)) ∧ Only (fun _ => False) w w' := by
  obtain ⟨cs, hcs⟩ : ∃ cs, ints (cnts l) = cs := ⟨_, rfl⟩
  have hlen : cs.length = 16 := by rw [← hcs, ints_length, cnts_length]
  have hix : ∀ k : Nat, k < 16 → ∀ W : World, (Instr.index 105 (.agg cs.toArray) (.int .i64 (k : Int))).run Try.prog W = .ok (.int .i64 (cn l k : Nat)) W := by
    intro k hk W
    rw [← hcs]
    exact index16 (cn l) k hk W
  have hsm := fun k (hk : k ≤ 16) => fu_small l h288 k hk
  have hone : ∀ v ∈ cs, v.oneCell' = true := by rw [← hcs]; exact ints_one _
  rw [hcs]
  have HX := Lib.hid hix
  have HSM := Lib.hid hsm
  have HLn := Lib.hid hlen
  have HON := Lib.hid hone
  clear hcs hix hsm hlen hone
  go_enter Try.func77, Try.ntmps77
  go_wp2_with (first
    | ((with_reducible show wpList _ _ _ (Oper.mk _ (Op.load _ _) _ _ _ _ :: _) _ _); refine wpList_load_is rfl 105 (.tmp 1) rfl w.heap.size rfl 105 cs (Is.new w 105 cs) Try.underlying105 (by rw [HLn.out]; exact info142) ?_))
  have HO : Hid (Only (fun _ => False) w (w.alloc (.cells cs.toArray 105))) := (Only.refl _ w).alloc _
  obtain ⟨wa, hwa⟩ : ∃ wa, w.alloc (.cells cs.toArray 105) = wa := ⟨_, rfl⟩
  rw [hwa] at HO
  rw [hwa]
  clear hwa
  go_loopg [3, 7] 16 (fun gk v i wx => ∃ k : Nat, i = .int .i64 k ∧ v = .int .i64 (fu l k : Nat) ∧ k + gk ≤ 16 ∧ 16 ≤ k + gk ∧ wx = wa)
  case atStart => exact ⟨0, rfl, rfl, by omega, by omega, rfl⟩
  case round =>
    obtain ⟨k, rfl, rfl, hk, hk2, rfl⟩ := hrel
    by_cases hlt : k < 16
    · have c1 := HX.out k hlt
      have h1 := HSM.out k (by omega)
      have h2 := cn_le l k
      have h3 : fu l (k + 1) = fu l k + cn l k * 2 ^ (15 - k) := rfl
      have h4 : 2 ^ (15 - k) ≤ 2 ^ 15 := Nat.pow_le_pow_right (by decide) (by omega)
      have h5 : cn l k * 2 ^ (15 - k) ≤ 288 * 2 ^ 15 := Nat.mul_le_mul (by omega) h4
      obtain ⟨x, hx⟩ : ∃ x, cn l k = x := ⟨_, rfl⟩
      obtain ⟨y, hy⟩ : ∃ y, fu l k = y := ⟨_, rfl⟩
      obtain ⟨q, hq⟩ : ∃ q, 15 - k = q := ⟨_, rfl⟩
      rw [hx] at c1 h2 h3 h5
      rw [hy] at h1 h3 ⊢
      rw [hq] at h3 h5
      obtain ⟨m, hm⟩ : ∃ m, x * 2 ^ q = m := ⟨_, rfl⟩
      rw [hm] at h3 h5
      have e1 : (15 : Int) - (k : Int) = (q : Int) := by omega
      have e2 : wrap64 (q : Int) = q := IntWalk.wrap64_in _ (by omega)
      have e3 : (x : Int) * 2 ^ q = (m : Int) := by rw [← hm]; simp
      have H3 := Lib.hid h3
      clear hx hy h3 h4 hm
      go_wp2_with fail
      go_roundg (gk - 1)
      case measure => omega
      case rel => exact ⟨k + 1, by go_num, by rw [H3.out]; go_num, by omega, by omega, rfl⟩
    · obtain rfl : k = 16 := by omega
      go_wp2
      go_ret
      exact ⟨rfl, HO.out⟩
end Go.Proofs.Ytjlkjebmilfgoaa

/- A region that draws its order, walked in one order that is named: an operation that yields the same in every world that meets S may be taken first, any other one only where it alone may come. Over any program. -/
namespace Go.Proofs.Ytjlkjebmilfgoaa
open Go.RowKit

section
variable {P : Program} {ops : Array Oper} {Q : Exit → Act → World → Prop} {S : World → Prop}
/-- The named order: true: taken first; false: the only one that may come. -/
def Steps (P : Program) (ops : Array Oper) (Q : Exit → Act → World → Prop) (S : World → Prop) : List (Bool × Nat) → Act → World → Prop
  | [], a, w => wpList P ops Q [] a w
  | (true, i) :: l, a, w => S w ∧ ∃ o v, ops[i]? = some o ∧ YieldsIf P ops S o v a ∧ Steps P ops Q S l (a.put o.dst v) w
  | (false, i) :: l, a, w => wpOp P ops Q i (fun a' w' => S w' ∧ Steps P ops Q S l a' w') a w
def okSteps (ops : Array Oper) : List (Bool × Nat) → Array Bool → Bool
  | [], listed => (Region.ready .any ops listed).isEmpty
  | (true, i) :: l, listed => (Region.ready .any ops listed).contains i && Region.free .any ops listed i && okSteps ops l (listed.setIfInBounds i true)
  | (false, i) :: l, listed => (Region.ready .any ops listed == [i]) && okSteps ops l (listed.setIfInBounds i true)

theorem Steps.any (hs : Region.noSelect ops = true) (hQ : ∀ c a d v w, Q (.panic c) (Act.put a d v) w → Q (.panic c) a w) : ∀ (l : List (Bool × Nat)) (listed : Array Bool) (a : Act) (w : World),
    okSteps ops l listed = true → Steps P ops Q S l a w → wpAnyH P .any ops Q S l.length listed a w
  | [], listed, a, w, hB, h => ⟨by simpa [okSteps] using hB, h⟩
  | (true, i) :: l, listed, a, w, hB, h => by
    obtain ⟨hS, o, v, ho, hy, h⟩ := h
    simp only [okSteps, Bool.and_eq_true] at hB
    exact wpAnyH_take ho hs hB.1.2 hB.1.1 (fun c a w => hQ c a _ v w) hy hS (Steps.any hs hQ l _ _ _ hB.2 h)
  | (false, i) :: l, listed, a, w, hB, h => by
    simp only [okSteps, Bool.and_eq_true, beq_iff_eq] at hB
    refine wpAnyH_all hB.1 (by simp) fun j hj => ?_
    obtain rfl : j = i := by simpa using hj
    exact wpOp_mono (fun a' w' h' => ⟨h'.1, Steps.any hs hQ l _ _ _ hB.2 h'.2⟩) h

theorem Steps.region {id : Nat} {a : Act} {w : World} (S : World → Prop) (l : List (Bool × Nat)) (hm : P.follows .mixedOrders = true) (hs : Region.noSelect ops = true) (hl : l.length = ops.size)
    (hB : okSteps ops l (Array.replicate ops.size false) = true) (hQ : ∀ c a d v w, Q (.panic c) (Act.put a d v) w → Q (.panic c) a w) (h : Steps P ops Q S l a w.drew) : (Code.region id ops true).wp P Q a w := by
  refine wp_region_held (S := S) hm ?_
  rw [← hl]
  exact Steps.any hs hQ l _ a _ (by rw [hl]; exact hB) h

/-- One that is taken first. -/
theorem Steps.take {i : Nat} {l : List (Bool × Nat)} {a : Act} {w : World} {d : Option Tmp} {op : Op} {ty : TypeId} {pos : String} {af : Array Edge} (v : Value) (ho : ops[i]? = some ⟨d, op, ty, pos, af, none⟩) (hS : S w)
    (hy : ∀ W, S W → (execOp a.eval ⟨d, op, ty, pos, af, none⟩).run P W = .ok (.value v) W) (h : Steps P ops Q S l (a.put d v) w) : Steps P ops Q S ((true, i) :: l) a w := ⟨hS, _, v, ho, .inl ⟨rfl, hy⟩, h⟩
/-- A call that alone may come. -/
theorem Steps.call {i : Nat} {l : List (Bool × Nat)} {a : Act} {w : World} {d : Option Tmp} {op : Op} {ty : TypeId} {pos : String} {af : Array Edge} (f : FuncId) (args : Array Value) (ho : ops[i]? = some ⟨d, op, ty, pos, af, none⟩)
    (hr : (execOp a.eval ⟨d, op, ty, pos, af, none⟩).run P w = .ok (.enter f args) w) (h : Calls P f args w fun e w' => ∃ v, e = .returned v ∧ S w' ∧ Steps P ops Q S l (a.put d v) w') : Steps P ops Q S ((false, i) :: l) a w := by
  refine wpOp_step ho fun K hK => ?_
  rw [if_pos (by rfl)]
  unfold Oper.wp
  rw [hr, Oper.upon_enter]
  refine h.mono fun e w'' hh => ?_
  obtain ⟨v, rfl, h1, h2⟩ := hh
  exact hK _ _ ⟨h1, h2⟩
/-- A store that alone may come. -/
theorem Steps.skip {i : Nat} {l : List (Bool × Nat)} {a : Act} {w w' : World} {d : Option Tmp} {op : Op} {ty : TypeId} {pos : String} {af : Array Edge} (ho : ops[i]? = some ⟨d, op, ty, pos, af, none⟩)
    (hr : (execOp a.eval ⟨d, op, ty, pos, af, none⟩).run P w = .ok .skip w') (hS : S w') (h : Steps P ops Q S l (a.put d undef) w') : Steps P ops Q S ((false, i) :: l) a w := by
  refine wpOp_step ho fun K hK => ?_
  rw [if_pos (by rfl)]
  unfold Oper.wp
  rw [hr, Oper.upon_skip]
  exact hK _ _ ⟨hS, h⟩
/-- A whole array that is loaded. -/
theorem yields_load {a : Act} {o : Oper} (ty : TypeId) (x : Operand) (ho : o.op = .load ty x) (g : Nat) (hx : a.eval x = .pointer (some ⟨g, 0, none⟩)) (t : TypeId) (cs : List Value) {n : Nat} {e : TypeId} (hu : P.underlying ty = some (.array n e))
    (hi : (P.info? ty).map (·.size) = some cs.length) (W : World) (hg : Is W g t cs) : (execOp a.eval o).run P W = .ok (.value (.agg cs.toArray)) W := by
  unfold execOp
  simp only [ho, hx, Instr.loadAt, Instr.sureAddr, Sem.run_bind, Sem.run_pure, Result.andThen_ok, run_loadVar_row W g t ty cs.toArray (0, 0) _ hg hu rfl (by simpa using hi)]
end
end Go.Proofs.Ytjlkjebmilfgoaa

/- Layer 5: Check, in the program and in the document: which code lengths make. -/
namespace Go.Proofs.Ytjlkjebmilfgoaa
open Go.RowKit

/-- What Check answers, in the program and in the document. -/
def CheckPost (w : World) (k e : Nat) (x : Ending) (w' : World) : Prop := x = .returned (.tuple #[.int .i64 k, .int .i64 e]) ∧ Only (fun _ => False) w w'

theorem check_no (A : Option Addr) (n c B : Nat) (z : List Int) (w : World) (h : See w B A (zints z)) (hn : z.length = n) (h300 : n ≤ 300) (hz : ¬ Okay z) :
    Calls Try.prog 57 #[.slice A n c] w (CheckPost w 0 1) := by
  have HC := Lib.hid (allowed_no A n c B z w h hn h300 hz)
  clear h hn hz
  go_enter Try.func57, Try.ntmps57
  go_wp2_with fail
  refine HC.out.mono ?_
  rintro e w' ⟨rfl, rfl⟩
  go_wp2
  go_ret2
  exact ⟨rfl, Only.refl _ _⟩

set_option maxHeartbeats 1000000 in
theorem check_yes (A : Option Addr) (n c B : Nat) (l : List Nat) (w : World) (h : See w B A (ints l)) (hn : l.length = n) (h288 : n ≤ 288) (hl : Low l) :
    Calls Try.prog 57 #[.slice A n c] w (CheckPost w (kd l).1 (kd l).2) := by
  have HC := Lib.hid (allowed_yes A n c B l w h hn h288 hl)
  have HC2 := Lib.hid (count A n c B l w h hn h288 hl)
  have HU := Lib.hid fun w => used l w (by omega)
  have HF := Lib.hid fun w => howFull l w (by omega)
  have hk := kd_cases l hl
  clear h hl
  go_enter Try.func57, Try.ntmps57
  go_wp2_with fail
  refine HC.out.mono ?_
  rintro e w' ⟨rfl, rfl⟩
  go_wp2_with fail
  refine HC2.out.mono ?_
  rintro e w1 ⟨rfl, ho1⟩
  obtain ⟨cs, hcs⟩ : ∃ cs, ints (cnts l) = cs := ⟨_, rfl⟩
  have hlen : cs.length = 16 := by rw [← hcs, ints_length, cnts_length]
  have hone : ∀ v ∈ cs, v.oneCell' = true := by rw [← hcs]; exact ints_one _
  rw [hcs] at HU HF ⊢
  have HO1 := Lib.hid ho1
  have HLn := Lib.hid hlen
  have HON := Lib.hid hone
  clear hcs ho1 HC HC2 hlen hone
  go_wp2_with ((with_reducible show wpList _ _ _ (Oper.mk _ (Op.store _ _ _) _ _ _ _ :: _) _ _); refine wpList_store_is rfl 105 (.tmp 4) (.tmp 11) rfl w1.heap.size cs rfl rfl 105 _ (Is.new w1 105 (List.replicate 16 (.int .i64 0))) (by rw [HLn.out]; exact info142) (by rw [HLn.out]; rfl) HON.out ?_; intro w2 hi2 ho2; have HI2 := Lib.hid hi2; have HO2 := Lib.hid ho2; clear hi2 ho2)
  refine Steps.region (fun W => Is W w1.heap.size 105 cs) [(true, 0), (true, 2), (false, 1), (false, 3), (true, 4), (true, 5)] (by kernel_rfl) (by kernel_rfl) rfl (by kernel_rfl) (fun _ _ d _ _ h => by cases d <;> exact h) ?_
  refine Steps.take (.agg cs.toArray) rfl HI2.out (fun W hW => yields_load 105 (.tmp 4) rfl w1.heap.size rfl 105 cs Try.underlying105 (by rw [HLn.out]; exact info142) W hW) ?_
  refine Steps.take (.agg cs.toArray) rfl HI2.out (fun W hW => yields_load 105 (.tmp 4) rfl w1.heap.size rfl 105 cs Try.underlying105 (by rw [HLn.out]; exact info142) W hW) ?_
  refine Steps.call 76 #[.agg cs.toArray] rfl (by kernel_rfl) ((HU.out w2.drew).mono ?_)
  rintro e w3 ⟨rfl, ho3⟩
  refine ⟨_, rfl, HI2.out.drew.only ho3 id, ?_⟩
  refine Steps.call 77 #[.agg cs.toArray] rfl (by kernel_rfl) ((HF.out w3).mono ?_)
  rintro e w4 ⟨rfl, ho4⟩
  have hi4 := (HI2.out.drew.only ho3 id).only ho4 id
  refine ⟨_, rfl, hi4, ?_⟩
  refine Steps.take _ rfl hi4 (fun _ _ => rfl) ?_
  refine Steps.take _ rfl hi4 (fun _ _ => rfl) ?_
  show wpList _ _ _ _ _ _
  have hoo : Only (fun _ => False) w w4 := ((((HO1.out.alloc _).andThen HO2.out fun j hj => .inr (hj ▸ HO1.out.size)).drew).trans ho3).trans ho4
  have HOO := Lib.hid hoo
  clear hoo HO1 HO2 HU HF ho3 ho4 hi4 HI2
  rcases hk with ⟨h1, h2, h3⟩ | ⟨h1, h2, h3⟩ | ⟨h1, h2, h3⟩ | ⟨h1, h2, h4, h3⟩
  all_goals
    have H3 := Lib.hid h3
    clear h3
  · obtain ⟨s, hs⟩ : ∃ s, st l 16 = s := ⟨_, rfl⟩
    rw [hs] at h2 ⊢
    rw [h1]
    clear h1 hs
    go_wp2
    go_ret2
    exact ⟨by rw [H3.out]; rfl, HOO.out⟩
  · rw [h1, h2]
    clear h1 h2
    go_wp2
    go_ret2
    exact ⟨by rw [H3.out]; rfl, HOO.out⟩
  · rw [h1, h2]
    clear h1 h2
    go_wp2
    go_ret2
    exact ⟨by rw [H3.out]; rfl, HOO.out⟩
  · obtain ⟨s, hs⟩ : ∃ s, st l 16 = s := ⟨_, rfl⟩
    obtain ⟨f, hf⟩ : ∃ f, fu l 16 = f := ⟨_, rfl⟩
    rw [hs] at h2 h4 ⊢
    rw [hf] at h1 h2 ⊢
    have h5 : ¬ (f : Int) = 32768 := by omega
    have h6 : ¬ (s : Int) = 0 := by omega
    clear hs hf
    by_cases h7 : s = 1
    · have h8 : ¬ (f : Int) = 16384 := by omega
      subst h7
      go_wp2
      go_ret2
      exact ⟨by rw [H3.out]; rfl, HOO.out⟩
    · have h8 : ¬ (s : Int) = 1 := by omega
      go_wp2
      go_ret2
      exact ⟨by rw [H3.out]; rfl, HOO.out⟩
end Go.Proofs.Ytjlkjebmilfgoaa

/- Layer 5: the document's Check. -/
namespace Go.Proofs.Ytjlkjebmilfgoaa
open Go.RowKit

theorem one_of (l : List Nat) (hl : Low l) (h : st l 16 = 1) : 1 ≤ lst 0 l ∧ fu l 16 = 2 ^ (15 - lst 0 l) := by
  rw [st_sum l hl] at h
  have := lst_one l 0 hl h
  rw [fu_sum l hl]
  exact ⟨this.1, this.2.2⟩
theorem one_is (l : List Nat) (hl : Low l) (h : st l 16 = 1) : lst 0 l = 1 ↔ fu l 16 = 16384 := by
  obtain ⟨h1, h2⟩ := one_of l hl h
  constructor
  · intro e; rw [h2, e]
  · intro e
    rw [h2] at e
    have : 2 ^ 14 = 2 ^ (15 - lst 0 l) := by omega
    have := (Nat.pow_right_inj (a := 2) (by decide)).1 this
    omega
theorem one_not (l : List Nat) (hl : Low l) (h : st l 16 = 1) : fu l 16 ≠ 32768 := by
  obtain ⟨h1, h2⟩ := one_of l hl h
  intro e
  rw [h2] at e
  have : 2 ^ 15 = 2 ^ (15 - lst 0 l) := by omega
  have := (Nat.pow_right_inj (a := 2) (by decide)).1 this
  omega

end Go.Proofs.Ytjlkjebmilfgoaa
