/- Layer 10: RunsUnpack, the law's own walk. -/
import Derived.Test.YtlhffflemajlfaaInts
import Derived.Test.YtlhffflemajlfaaCounts
namespace Go.Proofs.Ytlhffflemajlfaa
open Go.RowKit

section
variable {P : Program} {ops : Array Oper} {Q : Exit → Act → World → Prop} {S : World → Prop}
/-- A guarded one that is taken first, for its guard lets it. -/
theorem Steps.takeG {i : Nat} {l : List (Bool × Nat)} {a : Act} {w : World} {d : Option Tmp} {op : Op} {ty : TypeId} {pos : String} {af : Array Edge} {gd : Option (Nat × Bool)} (v : Value) (ho : ops[i]? = some ⟨d, op, ty, pos, af, gd⟩) (hw : Region.wanted ⟨d, op, ty, pos, af, gd⟩ (yielded ops a.tmps) = true) (hS : S w)
    (hy : ∀ W, S W → (execOp a.eval ⟨d, op, ty, pos, af, gd⟩).run P W = .ok (.value v) W) (h : Steps P ops Q S l (a.put d v) w) : Steps P ops Q S ((true, i) :: l) a w := ⟨hS, _, v, ho, .inl ⟨hw, hy⟩, h⟩
/-- A guarded call that alone may come. -/
theorem Steps.callG {i : Nat} {l : List (Bool × Nat)} {a : Act} {w : World} {d : Option Tmp} {op : Op} {ty : TypeId} {pos : String} {af : Array Edge} {gd : Option (Nat × Bool)} (f : FuncId) (args : Array Value) (ho : ops[i]? = some ⟨d, op, ty, pos, af, gd⟩) (hw : Region.wanted ⟨d, op, ty, pos, af, gd⟩ (yielded ops a.tmps) = true)
    (hr : (execOp a.eval ⟨d, op, ty, pos, af, gd⟩).run P w = .ok (.enter f args) w) (h : Calls P f args w fun e w' => ∃ v, e = .returned v ∧ S w' ∧ Steps P ops Q S l (a.put d v) w') : Steps P ops Q S ((false, i) :: l) a w := by
  refine wpOp_step ho fun K hK => ?_
  rw [if_pos hw]
  unfold Oper.wp
  rw [hr, Oper.upon_enter]
  refine h.mono fun e w'' hh => ?_
  obtain ⟨v, rfl, h1, h2⟩ := hh
  exact hK _ _ ⟨h1, h2⟩
end

theorem guard34 : Try.prog.eqGuardType Try.prog.depth 34 = false := by kernel_rfl
theorem eql_agg {a : Act} {o : Oper} {W : World} {t : TypeId} (ht : t = 34) (x y : Operand) (xs : Array Value) {ty : TypeId} (ho : o.op = .binOp .eql t x y ty) (hx : a.eval x = .agg xs) (hy : a.eval y = .agg xs) (he : (Op.equalIn 10000 34 (.agg xs) (.agg xs)).run Try.prog W = .ok true W) :
    (execOp a.eval o).run Try.prog W = .ok (.value (.bool true)) W := by
  subst ht
  unfold execOp
  simp only [ho, hx, hy, Sem.run_bind, run_eqGuard_agg W _ _ _ _ _ _ guard34, Result.andThen_ok, run_eql_struct, he, Sem.run_pure]
/-- Where the law's own counting stands. -/
def WantAt (w : World) (H : Nat) (ts : List Ru) (j : Nat) (wx : World) : Prop := Is wx H 34 (ints (countF (ts.take j))) ∧ Only (fun _ => False) w wx
theorem WantAt.new {w wx wy : World} {H j : Nat} {ts : List Ru} (h : WantAt w H ts j wx) (k : Only (fun _ => False) wx wy) : WantAt w H ts j wy := ⟨h.1.only k fun f => f, h.2.trans k⟩

theorem un_le : ∀ (ts : List Ru) (o : List Nat), o.length ≤ 1000 → (unF ts o).1.length ≤ 1000
  | [], o, h => by rw [unF]; exact h
  | r :: t, o, h => by
    rw [unF]
    split
    · simp
    · split
      · simp
      · split
        · simp
        · exact un_le t _ (by simp; omega)

set_option maxRecDepth 100000 in
set_option maxHeartbeats 8000000 in
theorem lawU (A : Option Addr) (n c : Nat) (ts : List Ru) (w : World) (h : See w w.heap.size A (rus ts)) (hn : ts.length = n) (h60 : n ≤ 60) : Calls Try.prog 4 #[.slice A n c] w (Yes w) := by
  have HS := Lib.hid h
  have HN := Lib.hid hn
  have hb := un_le ts [] (by simp)
  obtain ⟨r, hr⟩ : ∃ r, unF ts [] = r := ⟨_, rfl⟩
  rw [hr] at hb
  have HR := Lib.hid hr
  have g60 : ¬ (60 : Int) < (n : Int) := by omega
  have d60 : decide ((60 : Int) < (n : Int)) = false := decide_eq_false g60
  clear h hn hr
  go_enter Try.func4, Try.ntmps4
  go_upto_region 6 with (first
    | (go_at_call 6; refine (awake _).mono ?_; rintro e w1 ⟨rfl, ho⟩; have HO1 := Lib.hid ho; clear ho)
    | (go_at_call 9; refine (unpack A n c _ ts _ (HS.out.new HO1.out) HN.out (by omega)).mono ?_; rw [HR.out]; rintro e w2 ⟨A2, n2, c2, rfl, hn2, hm2⟩; have HM2 := Lib.hid hm2; have HN2 := Lib.hid hn2; clear hm2 hn2))
  have HO2 := Lib.hid (HO1.out.trans HM2.out.2.1)
  go_upto_region 7 with (go_at_call 8; refine (runpack A n c _ ts _ (HS.out.new HO2.out) HN.out (by omega)).mono ?_; rw [HR.out]; rintro e w3 ⟨A3, n3, c3, rfl, hn3, hm3⟩; have HM3 := Lib.hid hm3; have HN3 := Lib.hid hn3; clear hm3 hn3)
  have HO3 := Lib.hid (HO2.out.trans HM3.out.2.1)
  obtain rfl : n3 = n2 := by rw [← HN3.out]; exact HN2.out
  have HB1 : Hid (n3 ≤ 1000000) := Lib.hid (by rw [← HN2.out]; omega)
  have HS2 := Lib.hid ((HM2.out.see.new HM3.out.2.1).more HM3.out.2.1.size)
  have HS3 := Lib.hid HM3.out.see
  clear HO1 HO2 HM2 HM3 HN3 HR
  go_wp2_with fail
  have hst : WantAt w w3.heap.size ts 0 (w3.alloc (.cells (List.replicate 19 (Value.int .i64 0)).toArray 34)) := ⟨Is.new w3 34 _, HO3.out.alloc _⟩
  have hso : Only (fun _ => False) w3 (w3.alloc (.cells (List.replicate 19 (Value.int .i64 0)).toArray 34)) := (Only.refl _ w3).alloc _
  obtain ⟨H, hH⟩ : ∃ H, w3.heap.size = H := ⟨_, rfl⟩
  have HW : Hid (w.heap.size ≤ H) := Lib.hid (hH ▸ HO3.out.size)
  rw [hH] at hst
  have HST : Hid (WantAt w H ts 0 (w3.alloc (.cells (List.replicate 19 (Value.int .i64 0)).toArray 34)) ∧ Keep H w3 (w3.alloc (.cells (List.replicate 19 (Value.int .i64 0)).toArray 34))) := Lib.hid ⟨hst, hso.keep0 H⟩
  have HS2 : Hid (See w3 H A2 (ints r.1)) := Lib.hid (hH ▸ HS2.out)
  have HS3 : Hid (See w3 H A3 (ints r.1)) := Lib.hid (hH ▸ HS3.out)
  clear hst hso
  try rw [hH]
  clear hH
  go_loopg [27] n (fun gk i wx => ∃ k : Nat, i = .int .i64 k ∧ k + gk ≤ n ∧ n ≤ k + gk ∧ Hid (WantAt w H ts k wx ∧ Keep H w3 wx))
  case atStart => exact ⟨0, rfl, by omega, by omega, HST⟩
  case round =>
    clear HST
    obtain ⟨j, rfl, hg1, hg2, HE⟩ := hrel
    by_cases hlt : j < n
    · obtain ⟨t, ht⟩ : ∃ t, ts[j]? = some t := ⟨ts[j]'(by rw [HN.out]; exact hlt), by simp [HN.out, hlt]⟩
      obtain ⟨b0, off, rfl, _, c0, c1⟩ := (HS.out.new HE.out.1.2).sym j t ht
      have HT := Lib.hid (count_next ts j t ht)
      obtain ⟨s, m⟩ := t
      simp only at c0 c1
      clear ht
      go_upto_region 11 with fail
      obtain ⟨wa, hwa⟩ : ∃ wa, wr.alloc (.cells #[.int .i64 s, .int .i64 m] 36) = wa := ⟨_, rfl⟩
      obtain ⟨g, hg⟩ : ∃ g, wr.heap.size = g := ⟨_, rfl⟩
      have hIa : Is wa g 36 (ruc ⟨s, m⟩) := by rw [← hwa, ← hg]; exact Is.new wr 36 _
      have hoa : Only (fun _ => False) wr wa := hwa ▸ (Only.refl _ wr).alloc _
      have HEa : Hid (WantAt w H ts j wa ∧ Keep H w3 wa) := Lib.hid ⟨HE.out.1.new hoa, HE.out.2.trans (hoa.keep0 H)⟩
      have HG : Hid (g ≠ H) := Lib.hid fun e => by have := HE.out.1.1.lt; omega
      have ca0 := hIa.cell 0 rfl
      have HIa := Lib.hid hIa
      rw [hwa, hg]
      clear hwa hg hIa HE c0 c1 hoa
      go_cut [38] (fun v wx => v = .bool (decide (0 ≤ s ∧ s ≤ 18)) ∧ wx = wa)
      case first =>
        by_cases h1 : 0 ≤ s
        · by_cases h2 : s < 19
          · have HD : Hid (decide (0 ≤ s ∧ s ≤ 18) = true) := Lib.hid (decide_eq_true ⟨h1, by omega⟩)
            go_wp2_with fail
            go_meet
            exact ⟨by rw [HD.out], rfl⟩
          · have HD : Hid (decide (0 ≤ s ∧ s ≤ 18) = false) := Lib.hid (decide_eq_false fun h => h2 (by omega))
            go_wp2_with fail
            go_meet
            exact ⟨by rw [HD.out], rfl⟩
        · have HD : Hid (decide (0 ≤ s ∧ s ≤ 18) = false) := Lib.hid (decide_eq_false fun h => h1 h.1)
          go_wp2_with fail
          go_meet
          exact ⟨by rw [HD.out], rfl⟩
      case rest =>
        obtain ⟨rfl, rfl⟩ := hcut
        go_upto_if 38 with fail
        go_cut [] (fun wx => Hid (WantAt w H ts (j + 1) wx ∧ Keep H w3 wx) ∧ Hid (Is wx g 36 (ruc ⟨s, m⟩)))
        case first =>
          by_cases hs : 0 ≤ s ∧ s ≤ 18
          · have hd : decide (0 ≤ s ∧ s ≤ 18) = true := decide_eq_true hs
            rw [hd]
            have hbu := bump_yes ⟨s, m⟩ (countF (ts.take j)) hs
            obtain ⟨p, hp⟩ : ∃ p, s.toNat = p := ⟨_, rfl⟩
            obtain rfl : s = (p : Int) := by omega
            have hp18 : p < 19 := by omega
            have hf := count_facts (ts.take j)
            have hlen : (ts.take j).length ≤ 60 := by rw [List.length_take, HN.out]; omega
            have d1 := HEa.out.1.1.cell p (ints_at _ p (by rw [hf.1]; exact hp18))
            have d2 := HEa.out.1.1.frozen p
            have hy := hf.2 p
            simp only [hp] at hbu
            rw [hbu] at HT
            obtain ⟨y, hy1⟩ : ∃ y, (countF (ts.take j)).getD p 0 = y := ⟨_, rfl⟩
            rw [hy1] at d1 hy HT
            have hy3 : y ≤ 60 := by omega
            clear hf hlen hy hbu hy1 hp hs hd
            go_wp2_with fail
            go_meet
            refine ⟨Lib.hid ⟨⟨?_, HEa.out.1.2.set (p := ⟨H, p, none⟩) (.inr HW.out) _⟩, HEa.out.2.trans ((Only.refl _ _).set (p := ⟨H, p, none⟩) (.inl (Nat.le_refl H)) _)⟩, Lib.hid (HIa.out.far (p := ⟨H, p, none⟩) HG.out _)⟩
            rw [HT.out, ← ints_set]
            exact HEa.out.1.1.set p _
          · have hd : decide (0 ≤ s ∧ s ≤ 18) = false := decide_eq_false hs
            rw [hd]
            rw [bump_no ⟨s, m⟩ (countF (ts.take j)) hs] at HT
            clear hs hd
            go_wp2_with fail
            go_meet
            exact ⟨Lib.hid ⟨by unfold WantAt; rw [HT.out]; exact HEa.out.1, HEa.out.2⟩, HIa⟩
        case rest =>
          clear HEa HIa ca0
          obtain ⟨HEb, HIb⟩ := hcut
          have ca0 := HIb.out.cell 0 rfl
          have C11 : Hid (∀ k, Calls Try.prog 11 #[.int .i64 s] (wc.drewN k) fun e w' => e = .returned (.int .i64 (bitsF s)) ∧ ∃ n, w' = wc.drewN n) := Lib.hid fun k => (bits s _).mono fun _ _ ⟨he, hw⟩ => ⟨he, k, hw.symm⟩
          have C12 : Hid (∀ k, Calls Try.prog 12 #[.int .i64 s] (wc.drewN k) fun e w' => e = .returned (.int .i64 (bitsF s)) ∧ ∃ n, w' = wc.drewN n) := Lib.hid fun k => (rbits s _).mono fun _ _ ⟨he, hw⟩ => ⟨he, k, hw.symm⟩
          obtain ⟨b, hb⟩ : ∃ b, bitsF s = b := ⟨_, rfl⟩
          rw [hb] at C11 C12
          clear hb
          go_upto_region 13 with fail
          go_quiet (first | (go_at_call 11; exact C11.out _) | (go_at_call 12; exact C12.out _))
          go_wp2_with fail
          go_roundg (gk - 1)
          case measure => omega
          case rel => exact ⟨j + 1, by go_num, by omega, by omega, Lib.hid ⟨HEb.out.1.new ((Only.refl _ _).drewN _), Only.drewN HEb.out.2 _⟩⟩
    · obtain rfl : j = n := by omega
      have ht : ts.take j = ts := List.take_of_length_le (by rw [HN.out]; omega)
      have h1 := HE.out.1.1
      rw [ht] at h1
      have H1 := Lib.hid h1
      have HO4 := Lib.hid HE.out.1.2
      have HS4 := Lib.hid (HS.out.new HE.out.1.2)
      have HA2 : Hid (See wr H A2 (ints r.1)) := Lib.hid (HS2.out.keep HE.out.2)
      have HA3 : Hid (See wr H A3 (ints r.1)) := Lib.hid (HS3.out.keep HE.out.2)
      obtain ⟨cs, hcs⟩ : ∃ cs, ints (countF ts) = cs := ⟨_, rfl⟩
      have hlen : (ints (countF ts)).length = 19 := by rw [ints_length]; exact (count_facts ts).1
      have heq := same34 (countF ts) (count_facts ts).1
      rw [hcs] at hlen heq H1
      have HLn := Lib.hid hlen
      have HEQ := Lib.hid heq
      have HCS := Lib.hid hcs
      clear h1 ht hlen heq hcs HE
      go_wp2_with fail
      have H1 : Hid (Is wr.drew H 34 cs) := Lib.hid H1.out.drew
      have HO4 : Hid (Only (fun _ => False) w wr.drew) := Lib.hid HO4.out.drew
      have HS4 : Hid (See wr.drew w.heap.size A (rus ts)) := Lib.hid HS4.out
      have HA2 : Hid (See wr.drew H A2 (ints r.1)) := Lib.hid HA2.out
      have HA3 : Hid (See wr.drew H A3 (ints r.1)) := Lib.hid HA3.out
      refine Steps.region (fun W => Is W H 34 cs) [(true, 0), (true, 1), (false, 2), (true, 3), (true, 4), (true, 5), (true, 6), (true, 7), (true, 8), (true, 9), (true, 11), (false, 10), (true, 12), (true, 13), (true, 14)] (by kernel_rfl) (by kernel_rfl) rfl (by kernel_rfl) (fun _ _ d _ _ h => by cases d <;> exact h) ?_
      obtain ⟨w4, hw4⟩ : ∃ w4, wr.drew = w4 := ⟨_, rfl⟩
      rw [hw4] at H1 HO4 HS4 HA2 HA3 ⊢
      clear hw4
      refine Steps.take (.slice A2 n3 c2) rfl H1.out (fun _ _ => by kernel_rfl) ?_
      simp only [Act.put, List.setIfInBounds_toArray, List.set_cons_succ, List.set_cons_zero]
      refine Steps.take (.slice A3 n3 c3) rfl H1.out (fun _ _ => by kernel_rfl) ?_
      simp only [Act.put, List.setIfInBounds_toArray, List.set_cons_succ, List.set_cons_zero]
      refine Steps.call 10 #[.slice A2 n3 c2, .slice A3 n3 c3] rfl (by kernel_rfl) ?_
      refine (alike A2 A3 n3 c2 c3 H r.1 w4 HA2.out HA3.out HN2.out HB1.out).mono ?_
      rintro e w5 ⟨rfl, k5, rfl⟩
      refine ⟨_, rfl, H1.out.drewN k5, ?_⟩
      simp only [Act.put, List.setIfInBounds_toArray, List.set_cons_succ, List.set_cons_zero]
      have H1 : Hid (Is (w4.drewN k5) H 34 cs) := Lib.hid (H1.out.drewN k5)
      have HO4 : Hid (Only (fun _ => False) w (w4.drewN k5)) := Lib.hid (HO4.out.drewN k5)
      have HS4 : Hid (See (w4.drewN k5) w.heap.size A (rus ts)) := Lib.hid HS4.out
      obtain ⟨w5, hw5⟩ : ∃ w5, w4.drewN k5 = w5 := ⟨_, rfl⟩
      rw [hw5] at H1 HO4 HS4 ⊢
      clear hw5 HA2 HA3
      refine Steps.take (.bool true) rfl H1.out (fun _ _ => by kernel_rfl) ?_
      simp only [Act.put, List.setIfInBounds_toArray, List.set_cons_succ, List.set_cons_zero]
      refine Steps.takeG (.int .i64 r.2) rfl rfl H1.out (fun _ _ => by kernel_rfl) ?_
      simp only [Act.put, List.setIfInBounds_toArray, List.set_cons_succ, List.set_cons_zero]
      refine Steps.takeG (.int .i64 r.2) rfl rfl H1.out (fun _ _ => by kernel_rfl) ?_
      simp only [Act.put, List.setIfInBounds_toArray, List.set_cons_succ, List.set_cons_zero]
      refine Steps.takeG (.bool true) rfl rfl H1.out (fun _ _ => by go_simp) ?_
      simp only [Act.put, List.setIfInBounds_toArray, List.set_cons_succ, List.set_cons_zero]
      refine Steps.take (.bool true) rfl H1.out (fun _ _ => by kernel_rfl) ?_
      simp only [Act.put, List.setIfInBounds_toArray, List.set_cons_succ, List.set_cons_zero]
      refine Steps.take (.bool true) rfl H1.out (fun _ _ => by kernel_rfl) ?_
      simp only [Act.put, List.setIfInBounds_toArray, List.set_cons_succ, List.set_cons_zero]
      refine Steps.takeG (.slice A j c) rfl rfl H1.out (fun _ _ => by kernel_rfl) ?_
      simp only [Act.put, List.setIfInBounds_toArray, List.set_cons_succ, List.set_cons_zero]
      refine Steps.takeG (.agg cs.toArray) rfl rfl H1.out (fun W hW => yields_load 34 (.tmp 7) rfl H rfl 34 cs Try.underlying34 (by rw [HLn.out]; exact info34) W hW) ?_
      simp only [Act.put, List.setIfInBounds_toArray, List.set_cons_succ, List.set_cons_zero]
      refine Steps.callG 13 #[.slice A j c] rfl rfl (by kernel_rfl) ?_
      refine (counts A j c _ ts w5 HS4.out HN.out (by omega)).mono ?_
      rintro e w6 ⟨rfl, ho6⟩
      refine ⟨_, rfl, H1.out.only ho6 (fun f => f), ?_⟩
      simp only [Act.put, List.setIfInBounds_toArray, List.set_cons_succ, List.set_cons_zero]
      have H1 : Hid (Is w6 H 34 cs) := Lib.hid (H1.out.only ho6 fun f => f)
      have HO6 := Lib.hid (HO4.out.trans ho6)
      rw [HCS.out]
      clear ho6 HO4 HS4
      refine Steps.takeG (.bool true) rfl rfl H1.out (fun W _ => ?_) ?_
      · exact eql_agg rfl (.tmp 63) (.tmp 64) _ rfl rfl rfl (HEQ.out W)
      simp only [Act.put, List.setIfInBounds_toArray, List.set_cons_succ, List.set_cons_zero]
      refine Steps.take (.bool true) rfl H1.out (fun _ _ => by kernel_rfl) ?_
      simp only [Act.put, List.setIfInBounds_toArray, List.set_cons_succ, List.set_cons_zero]
      refine Steps.take (.bool true) rfl H1.out (fun _ _ => by kernel_rfl) ?_
      simp only [Act.put, List.setIfInBounds_toArray, List.set_cons_succ, List.set_cons_zero]
      show wpList _ _ _ _ _ _
      go_wp2
      go_ret
      exact ⟨rfl, HO6.out⟩
theorem lawU_all (A : Option Addr) (n c : Nat) (ts : List Ru) (w : World) (h : See w w.heap.size A (rus ts)) (hn : ts.length = n) : Calls Try.prog 4 #[.slice A n c] w (Yes w) := by
  by_cases h60 : n ≤ 60
  · exact lawU A n c ts w h hn h60
  · have g1 : (60 : Int) < (n : Int) := by omega
    clear h hn
    go_enter Try.func4, Try.ntmps4
    go_wp2_with (go_at_call 6; refine (awake _).mono ?_; rintro e w1 ⟨rfl, ho⟩; have HO1 := Lib.hid ho; clear ho)
    go_ret
    exact ⟨rfl, HO1.out⟩
end Go.Proofs.Ytlhffflemajlfaa
