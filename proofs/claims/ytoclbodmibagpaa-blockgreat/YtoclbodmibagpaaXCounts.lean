/- Layer 10: how often each symbol comes, by the program. -/
import Derived.Test.YtoclbodmibagpaaM3
import Derived.Test.YtoclbodmibagpaaXMay
import Derived.Test.YtoclbodmibagpaaXA
import Derived.Laws.StructEq
import Derived.ChangeKeysEq
namespace Go.Proofs.Ytoclbodmibagpaa
open Go.RowKit

/-- How often each of 19 symbols comes. -/
def bump (r : Ru) (l : List Nat) : List Nat := if 0 ≤ r.s ∧ r.s ≤ 18 then l.set r.s.toNat (l.getD r.s.toNat 0 + 1) else l
def countF (ts : List Ru) : List Nat := ts.foldl (fun l r => bump r l) (List.replicate 19 0)
theorem bump_length (r : Ru) (l : List Nat) : (bump r l).length = l.length := by
  unfold bump
  split <;> simp
theorem bump_le (r : Ru) (l : List Nat) (m : Nat) (h : ∀ i, l.getD i 0 ≤ m) : ∀ i, (bump r l).getD i 0 ≤ m + 1 := by
  intro i
  unfold bump
  split
  · rw [List.getD_eq_getElem?_getD, List.getElem?_set]
    split
    · split
      · have := h r.s.toNat
        simp
        simpa using this
      · simp
    · have := h i
      rw [List.getD_eq_getElem?_getD] at this
      omega
  · have := h i
    omega
theorem take_next {α : Type} (l : List α) (j : Nat) (t : α) (h : l[j]? = some t) : l.take (j + 1) = l.take j ++ [t] := by
  rw [List.take_add_one, h]
  rfl
theorem count_next (ts : List Ru) (j : Nat) (r : Ru) (h : ts[j]? = some r) : countF (ts.take (j + 1)) = bump r (countF (ts.take j)) := by
  unfold countF
  rw [take_next ts j r h, List.foldl_append]
  rfl
theorem count_facts (ts : List Ru) : (countF ts).length = 19 ∧ ∀ i, (countF ts).getD i 0 ≤ ts.length := by
  induction h : ts.length generalizing ts with
  | zero =>
    obtain rfl := List.eq_nil_of_length_eq_zero h
    refine ⟨by simp [countF], fun i => ?_⟩
    simp only [countF, List.foldl_nil, List.getD_eq_getElem?_getD, List.getElem?_replicate]
    split <;> simp
  | succ n ih =>
    obtain ⟨r, hr⟩ : ∃ r, ts[n]? = some r := ⟨ts[n]'(by omega), by simp [h]⟩
    have e := count_next ts n r hr
    rw [List.take_of_length_le (by omega)] at e
    have hi := ih (ts.take n) (by simp; omega)
    rw [e]
    exact ⟨by rw [bump_length]; exact hi.1, bump_le r _ n hi.2⟩
def CountPostX (w : World) (ts : List Ru) (e : Ending) (w' : World) : Prop := e = .returned (.agg (ints (countF ts)).toArray) ∧ Only (fun _ => False) w w'
theorem info34 : (Try.prog.info? 142).map (·.size) = some 19 := by kernel_rfl

/-- Where counting stands. -/
def CountAtX (w : World) (H : Nat) (ts : List Ru) (j : Nat) (wx : World) : Prop := Is wx (H + 1) 142 (ints (countF (ts.take j))) ∧ Is wx H 142 (List.replicate 19 (.int .i64 0)) ∧ Only (fun _ => False) w wx
theorem CountAtX.new {w wx wy : World} {H j : Nat} {ts : List Ru} (h : CountAtX w H ts j wx) (k : Only (fun _ => False) wx wy) : CountAtX w H ts j wy := ⟨h.1.only k fun f => f, h.2.1.only k fun f => f, h.2.2.trans k⟩
theorem bump_yes (r : Ru) (l : List Nat) (h : 0 ≤ r.s ∧ r.s ≤ 18) : bump r l = l.set r.s.toNat (l.getD r.s.toNat 0 + 1) := if_pos h
theorem bump_no (r : Ru) (l : List Nat) (h : ¬ (0 ≤ r.s ∧ r.s ≤ 18)) : bump r l = l := if_neg h

set_option maxRecDepth 20000 in
set_option maxHeartbeats 4000000 in
theorem counts (A : Option Addr) (n c B : Nat) (ts : List Ru) (w : World) (h : See w B A (rus ts)) (hn : ts.length = n) (hb : n ≤ 1000000) : Calls Try.prog 82 #[.slice A n c] w (CountPostX w ts) := by
  have HS := Lib.hid h
  have HN := Lib.hid hn
  clear h hn
  go_enter Try.func82, Try.ntmps82
  go_wp2_with fail
  have hst : CountAtX w w.heap.size ts 0 ((w.alloc (.cells (List.replicate 19 (Value.int .i64 0)).toArray 142)).alloc (.cells (List.replicate 19 (Value.int .i64 0)).toArray 142)) :=
    ⟨Is.new2 w _ 142 _, (Is.new w 142 _).alloc _, ((Only.refl _ w).alloc _).alloc _⟩
  obtain ⟨H, hH⟩ : ∃ H, w.heap.size = H := ⟨_, rfl⟩
  rw [hH] at hst
  have HST := Lib.hid hst
  clear hst
  have HH := Lib.hid hH
  try rw [hH]
  clear hH
  go_loopg [8] n (fun gk i wx => ∃ k : Nat, i = .int .i64 k ∧ k + gk ≤ n ∧ n ≤ k + gk ∧ Hid (CountAtX w H ts k wx))
  case atStart => exact ⟨0, rfl, by omega, by omega, HST⟩
  case round =>
    clear HST
    obtain ⟨j, rfl, hg1, hg2, HE⟩ := hrel
    by_cases hlt : j < n
    · obtain ⟨t, ht⟩ : ∃ t, ts[j]? = some t := ⟨ts[j]'(by rw [HN.out]; exact hlt), by simp [HN.out, hlt]⟩
      obtain ⟨b0, off, rfl, _, c0, c1⟩ := (HS.out.new HE.out.2.2).symX j t ht
      have HT := Lib.hid (count_next ts j t ht)
      obtain ⟨s, m⟩ := t
      simp only at c0 c1
      clear ht
      go_upto_region 5 with fail
      obtain ⟨wa, hwa⟩ : ∃ wa, wr.alloc (.cells #[.int .i64 s, .int .i64 m] 172) = wa := ⟨_, rfl⟩
      obtain ⟨g, hg⟩ : ∃ g, wr.heap.size = g := ⟨_, rfl⟩
      have hIa : Is wa g 172 (ruc ⟨s, m⟩) := by rw [← hwa, ← hg]; exact Is.new wr 172 _
      have HEa : Hid (CountAtX w H ts j wa) := Lib.hid (HE.out.new (hwa ▸ (Only.refl _ wr).alloc _))
      have ca0 := hIa.cell 0 rfl
      have HIa := Lib.hid hIa
      rw [hwa, hg]
      clear hwa hg hIa HE c0 c1
      by_cases hs : 0 ≤ s ∧ s ≤ 18
      · have hb2 : (decide (0 ≤ s) && decide (s ≤ 18)) = true := by simp; exact hs
        have C22 : Hid (∀ w1, Calls Try.prog 118 #[.int .i64 s] w1 fun e w' => e = .returned (.bool true) ∧ w1 = w') := Lib.hid fun w1 => by have := isSym s w1; rw [hb2] at this; exact this
        have hbu := bump_yes ⟨s, m⟩ (countF (ts.take j)) hs
        obtain ⟨p, hp⟩ : ∃ p, s.toNat = p := ⟨_, rfl⟩
        obtain rfl : s = (p : Int) := by omega
        have hp18 : p < 19 := by omega
        have hf := count_facts (ts.take j)
        have hlen : (ts.take j).length ≤ 1000000 := by rw [List.length_take, HN.out]; omega
        have d1 := HEa.out.1.cell p (ints_atX _ p (by rw [hf.1]; exact hp18))
        have d2 := HEa.out.1.frozen p
        have hy := hf.2 p
        simp only [hp] at hbu
        rw [hbu] at HT
        obtain ⟨y, hy1⟩ : ∃ y, (countF (ts.take j)).getD p 0 = y := ⟨_, rfl⟩
        rw [hy1] at d1 hy HT
        have hy3 : y ≤ 1000000 := by omega
        clear hf hlen hy hbu hy1 hp hb2 hs
        go_wp2_with (go_at_call 118; refine (C22.out _).mono ?_; rintro e w1 ⟨rfl, rfl⟩)
        go_roundg (gk - 1)
        case measure => omega
        case rel =>
          refine ⟨j + 1, by go_num, by omega, by omega, Lib.hid ⟨?_, HEa.out.2.1.far (p := ⟨H + 1, p, none⟩) (by simp) _, HEa.out.2.2.set (p := ⟨H + 1, p, none⟩) (.inr (by have := HH.out; simp; omega)) _⟩⟩
          rw [HT.out, ← ints_set]
          exact HEa.out.1.set p _
      · have hb2 : (decide (0 ≤ s) && decide (s ≤ 18)) = false := by simp; omega
        have C22 : Hid (∀ w1, Calls Try.prog 118 #[.int .i64 s] w1 fun e w' => e = .returned (.bool false) ∧ w1 = w') := Lib.hid fun w1 => by have := isSym s w1; rw [hb2] at this; exact this
        rw [bump_no ⟨s, m⟩ (countF (ts.take j)) hs] at HT
        have HS2 := Lib.hid hs
        clear hb2 hs
        go_wp2_with (go_at_call 118; refine (C22.out _).mono ?_; rintro e w1 ⟨rfl, rfl⟩)
        go_roundg (gk - 1)
        case measure => omega
        case rel => exact ⟨j + 1, by go_num, by omega, by omega, Lib.hid (by unfold CountAtX; rw [HT.out]; exact HEa.out)⟩
    · have ht : ts.take j = ts := List.take_of_length_le (by rw [HN.out]; omega)
      obtain ⟨h1, h2, h3⟩ := HE.out
      rw [ht] at h1
      have H1 := Lib.hid h1
      have H2 := Lib.hid h2
      have H3 := Lib.hid h3
      have hlen : (ints (countF ts)).length = 19 := by rw [ints_length]; exact (count_facts ts).1
      have HLn := Lib.hid hlen
      clear h1 h2 h3 ht hlen HE
      go_wp2_with (first
        | ((with_reducible show wpList _ _ _ (Oper.mk _ (Op.load _ _) _ _ _ _ :: _) _ _); refine wpList_load_is rfl 142 (.tmp 3) rfl (H + 1) rfl 142 _ H1.out Try.underlying142 (by rw [HLn.out]; exact info34) ?_)
        | ((with_reducible show wpList _ _ _ (Oper.mk _ (Op.store _ _ _) _ _ _ _ :: _) _ _); refine wpList_store_row rfl 142 (.tmp 2) (.tmp 22) rfl H _ rfl rfl 142 _ H2.out (by rw [List.size_toArray, HLn.out]; exact info34) (by rw [List.size_toArray, List.size_toArray, HLn.out]; rfl) (all_oneCell_toArray (ints_one _)) ?_))
      refine bodyPost_ret (results_cell_row rfl _ _ H 142 _ (0, 0) _ rfl (H2.out.row _) Try.underlying142 rfl (by rw [List.size_toArray, HLn.out]; exact info34)) rfl ?_
      exact ⟨rfl, H3.out.row (.inr (by have := HH.out; omega)) _⟩

/-- An array of numbers is like itself. -/
theorem plain3 : Try.prog.plainKey 3 = true := by kernel_rfl
theorem items_self (d : Nat) (l : List Nat) (w : World) : ∀ is : List Nat, (∀ i ∈ is, i < l.length) → (Op.eqItems (d + 1) 3 1 (ints l).toArray (ints l).toArray is).run Try.prog w = .ok true w
  | [], _ => by simp [Op.eqItems]
  | i :: is, h => by
    have hi := ints_atX l i (h i (by simp))
    have hp : (part 3 (ints l).toArray (i * 1)).run Try.prog w = .ok (.int .i64 (l.getD i 0 : Nat)) w := run_part_plain w plain3 (by rw [Nat.mul_one, List.getElem?_toArray]; exact hi)
    have hr := items_self d l w is (fun j hj => h j (by simp [hj]))
    simp only [Op.eqItems, Sem.run_bind, hp, Result.andThen_ok]
    rw [run_equalIn_int w d 3 .i64 .i64 _ _ Try.underlying3]
    simpa using hr
theorem same34 (l : List Nat) (h : l.length = 19) (w : World) : (Op.equalIn 10000 142 (.agg (ints l).toArray) (.agg (ints l).toArray)).run Try.prog w = .ok true w := by
  obtain ⟨i, hi, _⟩ := info_parts info3
  rw [run_equalIn_array w 9999 _ _ Try.underlying142 hi, show Try.prog.cellsOf 3 = 1 from by kernel_rfl]
  exact items_self 9998 l w _ (fun i hi => by rw [h]; simpa using hi)
end Go.Proofs.Ytoclbodmibagpaa
