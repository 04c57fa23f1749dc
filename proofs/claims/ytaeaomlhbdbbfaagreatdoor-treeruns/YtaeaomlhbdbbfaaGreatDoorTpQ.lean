/- Layer 15, the landed program: folds; Collision, Check, Of. -/
import Derived.Test.YtaeaomlhbdbbfaaGreatDoorTpJ
import Derived.Test.YtaeaomlhbdbbfaaGreatDoorFpF
import Derived.Maps.OwnOps
import Derived.Maps.OwnSet
import Derived.Carry
import Derived.Test.YtaeaomlhbdbbfaaGreatDoorRpG
import Derived.Test.YtaeaomlhbdbbfaaGreatDoorTpI
/- Layer 15, the landed program: folded paths and how many were folded to each; which path collides. -/
namespace Go.Proofs.YtaeaomlhbdbbfaaGreatDoor
open Go.RowKit

/-- How many nodes' paths are folded to this. -/
def cntF (ps : List Nd) (f : List UInt8) : Nat := ps.countP fun n => decide (foldF n.path = f)
theorem cnt_snoc (ps : List Nd) (x : Nd) (f : List UInt8) : cntF (ps ++ [x]) f = cntF ps f + if foldF x.path = f then 1 else 0 := by
  unfold cntF
  rw [List.countP_append, List.countP_singleton]
  by_cases h : foldF x.path = f
  · rw [if_pos h, if_pos (decide_eq_true h)]
  · rw [if_neg h, if_neg (by rw [decide_eq_false h]; decide)]
theorem cnt_le (ps : List Nd) (f : List UInt8) : cntF ps f ≤ ps.length := List.countP_le_length
/-- A path that isn't there collides where one is folded as it is. -/
theorem coll_cnt {ps : List Nd} {p : List UInt8} (h : ∀ x ∈ ps, x.path ≠ p) : collT ps p = decide (0 < cntF ps (foldF p)) := by
  unfold collT cntF
  rw [show decide (0 < ps.countP fun n => decide (foldF n.path = foldF p)) = ps.any fun n => decide (foldF n.path = foldF p) from by
    rw [Bool.eq_iff_iff, decide_eq_true_eq, List.countP_pos_iff, List.any_eq_true]]
  induction ps with
  | nil => rfl
  | cons x r ih =>
    rw [List.any_cons, List.any_cons, ih fun y hy => h y (List.mem_cons_of_mem _ hy), decide_eq_false (h x List.mem_cons_self)]
    simp
/-- A map of the call's own that holds how many of these nodes' paths are folded to what. -/
def FoldsAt (w : World) (b : Nat) (ps : List Nd) : Prop := ∃ D : DataW Unit, w.ownsMap Tryz.prog 9 (plainElem Tryz.prog 3) b ps.length D ∧ ∀ f : List UInt8, D.atKey (.string f) (.lit (.int .i64 0)) = .lit (.int .i64 (cntF ps f : Nat))
theorem FoldsAt.only {w w' : World} {b : Nat} {ps : List Nd} {X : Nat → Prop} (h : FoldsAt w b ps) (k : Only X w w') (hb : ¬ X b) : FoldsAt w' b ps := by
  obtain ⟨D, ⟨es, clock, h1, h2, h3, h4⟩, h5⟩ := h
  exact ⟨D, ⟨es, clock, (k.block b (block_lt h1) hb).trans h1, h2, h3, h4⟩, h5⟩
theorem FoldsAt.lt {w : World} {b : Nat} {ps : List Nd} (h : FoldsAt w b ps) : b < w.heap.size := by
  obtain ⟨D, h1, _⟩ := h
  exact h1.lt
theorem FoldsAt.made (w : World) : FoldsAt (w.alloc (.map #[] 0)) w.heap.size [] := ⟨_, World.ownsMap_made w Tryz.prog 9 _, fun _ => rfl⟩
theorem lit_inj {a b : Int} (h : (DataW.lit (Lit.int .i64 a) : DataW Unit) = .lit (.int .i64 b)) : a = b := by
  injection h with h
  injection h
theorem litS_ne {a b : List UInt8} (h : a ≠ b) : Lit.string a ≠ Lit.string b := fun e => h (by injection e)
theorem keyedS : Maps.Keyed Tryz.prog 9 := Maps.string_keyed Tryz.underlying9
theorem zeroInt (w : World) : (zeroValue 3).run Tryz.prog w = .ok (.int .i64 0) w := by kernel_rfl
set_option maxRecDepth 20000 in
set_option maxHeartbeats 4000000 in
theorem pmeet (b : Nat) (ps : List Nd) (x : Nd) (w : World) (hg : GrF w) (h : FoldsAt w b ps) (hb : ps.length ≤ 10000) (hx : x.path.length ≤ 1000) : Calls Tryz.prog 41 #[.map (some b), .string (tx x.path)] w fun e w' => e = .returned (.bool (decide (0 < cntF ps (foldF x.path)))) ∧ FoldsAt w' b (ps ++ [x]) ∧ Only (· = b) w w' := by
  have HF := Lib.hid (pfold x.path w hg hx)
  have HH := Lib.hid h
  have hc := cnt_le ps (foldF x.path)
  have HS : Hid (∀ f, cntF (ps ++ [x]) f = cntF ps f + if foldF x.path = f then 1 else 0) := Lib.hid (cnt_snoc ps x)
  have hfl : (foldF x.path).length ≤ 1000 := by rw [fold_length]; exact hx
  have hkey : keyOf Tryz.prog 9 (.string (tx (foldF x.path))) = some (.string (foldF x.path)) := WideMaps.keyOf_string_mk Tryz.underlying9 (by rw [tx_size]; unfold maxLen; omega)
  have hlen : (ps ++ [x]).length = ps.length + 1 := by rw [List.length_append]; rfl
  clear hg h hx hfl
  generalize foldF x.path = f at *
  go_enter Tryz.func41, Tryz.ntmps41
  go_wp2_with fail
  refine HF.out.mono ?_
  rintro e w1 ⟨rfl, o1⟩
  obtain ⟨D, hown, hat⟩ := HH.out.only o1 (fun q => q)
  have HAT := Lib.hid hat
  have HO1 := Lib.hid o1
  have hc0 := hat f
  have HIM := Lib.hid hown.isMap
  clear HF o1 hat
  have hw : wrap64 ((cntF ps f : Nat) + 1 : Int) = (cntF ps f : Nat) + 1 := IntWalk.wrap64_in _ (by omega)
  have hwf : (Lit.int .i64 ((cntF ps f : Nat) + 1 : Int)).wf = true := by rw [← hw]; exact wrap64_wf _
  have hml : ps.length < maxLen := by simp only [maxLen]; omega
  have q1 : decide ((1 : Int) < (cntF ps f : Nat) + 1) = decide (0 < cntF ps f) := by
    by_cases g : 0 < cntF ps f
    · rw [decide_eq_true g, decide_eq_true (by omega)]
    · rw [decide_eq_false g, decide_eq_false (by omega)]
  go_wp2_with (first
    | (at_lookup; refine wpList_lookup_own_int _ rfl _ _ 70 rfl 9 3 .i64 keyedS Tryz.underlying70 Tryz.underlying3 (zeroInt _) b (ps.length + 1) _ rfl hown2 _ _ rfl hkey ?_; intro c2 hat2 hwc2; obtain rfl : c2 = (cntF ps f : Nat) + 1 := lit_inj (hat2.symm.trans (Maps.atKey_put_same HIM.out (by trivial) _ _))
       clear hat2 hwc2)
    | (at_lookup; refine wpList_lookup_own_int _ rfl _ _ 70 rfl 9 3 .i64 keyedS Tryz.underlying70 Tryz.underlying3 (zeroInt _) b ps.length D rfl hown _ _ rfl hkey ?_; intro c hat hwc; obtain rfl : c = (cntF ps f : Nat) := lit_inj (hat.symm.trans hc0)
       clear hat hwc)
    | (at_mapUpdate; refine wpList_mapUpdate_own _ rfl _ _ _ 70 rfl 9 3 keyedS Tryz.underlying70 _ b ps.length D rfl hown hml _ _ _ rfl rfl hkey _ [] (plainElem_int Tryz.underlying3 hwf) ?_; intro w2 hown2 hgrow2))
  go_ret
  refine ⟨rfl, ⟨_, by rw [hlen]; exact hown2, fun f' => ?_⟩, (HO1.out.mono fun _ q => q.elim).grown hgrow2 (by intro k hk; cases hk; exact .inl rfl)⟩
  rw [HS.out]
  by_cases e : f = f'
  · subst e
    rw [Maps.atKey_put_same HIM.out (by trivial), if_pos rfl]
    rfl
  · rw [Maps.atKey_put_other (litS_ne fun h => e h.symm), HAT.out, if_neg e]
    rfl
end Go.Proofs.YtaeaomlhbdbbfaaGreatDoor

/- Layer 15, the landed program: the first path that collides; may a path stand behind nodes. -/
namespace Go.Proofs.YtaeaomlhbdbbfaaGreatDoor
open Go.RowKit

theorem take_far {ps : List Nd} (hs : Srt ps) {i : Nat} (h : i < ps.length) : ∀ x ∈ ps.take i, x.path ≠ (ps.getD i nd0).path := fun x hx e => by
  obtain ⟨j, h1, _, rfl⟩ := mem_front nd0 hx
  have := srt_getD hs h1 h
  rw [e] at this
  exact less_irrefl _ this
set_option maxRecDepth 20000 in
set_option maxHeartbeats 8000000 in
theorem pcoll15 {v : Value} {ps : List Nd} {F : Nat → Prop} (w : World) (hg : GrF w) (hT : Tr15 v ps F w) (hf : Few ps) : Calls Tryz.prog 22 #[v] w fun e w' => e = .returned (.tuple #[.string (tx (collA (collisionT ps)).1), .bool (collA (collisionT ps)).2]) ∧ Only (fun _ => False) w w' := by
  obtain ⟨g, A, c, rfl, ht, hF⟩ := hT
  obtain ⟨n, hn⟩ : ∃ n, ps.length = n := ⟨_, rfl⟩
  have HN := Lib.hid hn
  have dg : w.cell? ⟨g, 0, none⟩ = some (.slice A n c) := by rw [← hn]; exact ht.hold.cell 0 rfl
  have HS := Lib.hid ht.row.see
  have HSR := Lib.hid hf.1.srt
  have HSM := Lib.hid hf.2.1
  have hb := hf.2.2
  rw [hn] at hb
  have HG := Lib.hid hg
  have hmm := @run_makeMap Tryz.prog
  obtain ⟨b, hbb⟩ : ∃ b, w.heap.size = b := ⟨_, rfl⟩
  obtain ⟨w0, hw0⟩ : ∃ w0, w.alloc (.map #[] 0) = w0 := ⟨_, rfl⟩
  have HM0 : Hid (FoldsAt w0 b []) := Lib.hid (by rw [← hw0, ← hbb]; exact FoldsAt.made w)
  have HFR : Hid (Only (fun _ => False) w w0) := Lib.hid (by rw [← hw0]; exact (Only.refl _ w).alloc _)
  have HBB := Lib.hid hbb
  have e0 := only_cell dg HFR.out
  clear hg hf ht hF hn
  go_enter Tryz.func22, Tryz.ntmps22
  go_wp2_with fail
  go_loopg [15] n (fun gk u wx => ∃ (i : Nat), u = .int .i64 i ∧ i + gk = n ∧ Hid (collisionT ps = collG (ps.take i) (ps.drop i)) ∧ Hid (FoldsAt wx b (ps.take i)) ∧ Hid (Only (fun _ => False) w wx))
  case atStart => exact ⟨0, rfl, by omega, Lib.hid rfl, HM0, HFR⟩
  case round =>
    clear hmm hbb hw0
    obtain ⟨i, rfl, hi, HC, HMP, HW⟩ := hrel
    by_cases hlt : i < n
    · have l4 : (i : Int) < (n : Int) := by omega
      have hlt2 : i < ps.length := by rw [HN.out]; exact hlt
      obtain ⟨bb, o, rfl, d0, d1, d2, d3, d4⟩ := see_nd (HS.out.new HW.out) hlt2
      have hsm := HSM.out _ (getD_mem nd0 ps i hlt2)
      have HCA := Lib.hid (coll_at ps i hlt2)
      have HTK := Lib.hid (getD_take_snoc nd0 ps i hlt2)
      have HFA := Lib.hid (take_far HSR.out hlt2)
      have htl : (ps.take i).length ≤ 10000 := by rw [List.length_take]; omega
      clear hlt2
      generalize ps.getD i nd0 = q at d0 d1 d2 d3 d4 hsm HCA HTK HFA
      have hq60 := hsm.2.1
      have HCC : Hid (collT (ps.take i) q.path = decide (0 < cntF (ps.take i) (foldF q.path))) := Lib.hid (coll_cnt HFA.out)
      generalize ps.take i = done at *
      have HME : Hid (∀ w5, Only (fun _ => False) w w5 → FoldsAt w5 b done → Calls Tryz.prog 41 #[.map (some b), .string (tx q.path)] w5 fun e w' => e = .returned (.bool (decide (0 < cntF done (foldF q.path)))) ∧ FoldsAt w' b (done ++ [q]) ∧ Only (· = b) w5 w') := Lib.hid fun w5 o5 h5 => pmeet b done q w5 (HG.out.keep o5) h5 htl (by omega)
      rw [← HTK.out] at HME
      clear hsm htl
      generalize decide (0 < cntF done (foldF q.path)) = d at HCC HME
      obtain ⟨X, hX⟩ : ∃ X, wr.heap.size = X := ⟨_, rfl⟩
      have hbX : b < X := by have := HMP.out.lt; omega
      have HXX := Lib.hid hX
      cases d with
      | true =>
        have HE : Hid (collisionT ps = some q.path) := Lib.hid (by rw [HC.out, HCA.out, if_pos HCC.out])
        clear HCA HCC HC
        go_wp2_with (first
          | ((with_reducible show wpList _ _ _ (Oper.mk _ (Op.store _ _ _) _ _ _ _ :: _) _ _)
             refine wpList_store_is rfl 29 (.tmp 6) (.tmp 18) rfl X (ndVals q) rfl rfl 29 [.string ⟨#[]⟩, .bool false, .string ⟨#[]⟩, .int .i64 0, .int .i64 0] (by rw [← HXX.out]; exact Is.new wr _ _) infoNd5 rfl (by simp [ndVals, Value.oneCell']) ?_
             intro w5 i5 o5
             have HI5 := Lib.hid i5
             have e0 := i5.cell 0 rfl
             have HW5 : Hid (Only (fun _ => False) w w5) := Lib.hid ((HW.out.alloc _).andThen o5 (by intro j hj; right; rw [hj, ← HXX.out]; exact HW.out.size))
             have HM5 : Hid (FoldsAt w5 b done) := Lib.hid ((HMP.out.only ((Only.refl (fun _ => False) wr).alloc _) (fun q => q)).only o5 (fun e => by omega))
             clear i5 o5)
          | (go_at_call 41; refine (HME.out _ HW5.out HM5.out).mono ?_; rintro e w7 ⟨rfl, m7, o7⟩
             have HM7 := Lib.hid m7
             have I7 := HI5.out.only o7 (fun e => by omega)
             have f0 := I7.cell 0 rfl
             have HW7 : Hid (Only (fun _ => False) w w7) := Lib.hid (HW5.out.andThen o7 (by rintro j rfl; exact .inr (Nat.le_of_eq HBB.out)))
             clear m7 o7 I7))
        go_ret2
        rw [HE.out]
        exact ⟨rfl, HW7.out⟩
      | false =>
        have HE : Hid (collisionT ps = collG (ps.take (i + 1)) (ps.drop (i + 1))) := Lib.hid (by rw [HC.out, HCA.out, if_neg (by rw [HCC.out]; decide)])
        clear HCA HCC HC
        go_wp2_with (first
          | ((with_reducible show wpList _ _ _ (Oper.mk _ (Op.store _ _ _) _ _ _ _ :: _) _ _)
             refine wpList_store_is rfl 29 (.tmp 6) (.tmp 18) rfl X (ndVals q) rfl rfl 29 [.string ⟨#[]⟩, .bool false, .string ⟨#[]⟩, .int .i64 0, .int .i64 0] (by rw [← HXX.out]; exact Is.new wr _ _) infoNd5 rfl (by simp [ndVals, Value.oneCell']) ?_
             intro w5 i5 o5
             have HI5 := Lib.hid i5
             have e0 := i5.cell 0 rfl
             have HW5 : Hid (Only (fun _ => False) w w5) := Lib.hid ((HW.out.alloc _).andThen o5 (by intro j hj; right; rw [hj, ← HXX.out]; exact HW.out.size))
             have HM5 : Hid (FoldsAt w5 b done) := Lib.hid ((HMP.out.only ((Only.refl (fun _ => False) wr).alloc _) (fun q => q)).only o5 (fun e => by omega))
             clear i5 o5)
          | (go_at_call 41; refine (HME.out _ HW5.out HM5.out).mono ?_; rintro e w7 ⟨rfl, m7, o7⟩
             have HM7 := Lib.hid m7
             have I7 := HI5.out.only o7 (fun e => by omega)
             have f0 := I7.cell 0 rfl
             have HW7 : Hid (Only (fun _ => False) w w7) := Lib.hid (HW5.out.andThen o7 (by rintro j rfl; exact .inr (Nat.le_of_eq HBB.out)))
             clear m7 o7 I7))
        go_roundg (gk - 1)
        case measure => omega
        case rel => exact ⟨i + 1, by go_num, by omega, HE, HM7, HW7⟩
    · obtain rfl : i = n := by omega
      have HE : Hid (collisionT ps = none) := Lib.hid (by rw [HC.out, List.drop_of_length_le (by rw [HN.out]; exact Nat.le_refl _)]; rfl)
      go_wp2
      go_ret2
      rw [HE.out]
      exact ⟨rfl, HW.out⟩
/-- What is wrong with a path behind nodes: 2 it isn't in order, 8 its directory isn't there. -/
def placeZ (done : List Nd) (p : List UInt8) : Int := if 0 < done.length ∧ 0 ≤ cmpF (partsF (done.getD (done.length - 1) nd0).path) (partsF p) then 2 else if (parentF p).2 = true ∧ isDirT done (parentF p).1 = false then 8 else 0
set_option maxRecDepth 20000 in
set_option maxHeartbeats 8000000 in
theorem pplace (A : Option Addr) (n c B : Nat) (ps : List Nd) (p : List UInt8) (w : World) (h : See w B A (nds ps)) (hn : ps.length = n) (hb : n ≤ 10000) (hs : Srt ps) (hin : ∀ x ∈ ps, x.path.length ≤ 100000) (hp : p.length ≤ 2000) : Calls Tryz.prog 43 #[.slice A n c, .string (tx p)] w fun e w' => e = .returned (.int .i64 (placeZ ps p)) ∧ Only (fun _ => False) w w' := by
  have HS := Lib.hid h
  have HN := Lib.hid hn
  have HD : Hid (∀ q : List UInt8, q.length ≤ 100000 → ∀ w1, Only (fun _ => False) w w1 → Calls Tryz.prog 46 #[.slice A n c, .string (tx q)] w1 fun e w' => e = .returned (.bool (isDirT ps q)) ∧ Only (fun _ => False) w1 w') := Lib.hid fun q hq w1 o => phasdir A n c B ps q w1 (h.new o) hn (by omega) hs hin hq
  have HPR : Hid (∀ w1, Calls Tryz.prog 27 #[.string (tx p)] w1 fun e w' => e = .returned (.tuple #[.string (tx (parentF p).1), .bool (parentF p).2]) ∧ Only (fun _ => False) w1 w') := Lib.hid fun w1 => pparent p w1 (by omega)
  have hpl := parent_len p
  have HDP := Lib.hid (HD.out (parentF p).1 (by omega))
  have HZ : Hid (placeZ ps p = if 0 < n ∧ 0 ≤ cmpF (partsF (ps.getD (n - 1) nd0).path) (partsF p) then 2 else if (parentF p).2 = true ∧ isDirT ps (parentF p).1 = false then 8 else 0) := Lib.hid (by unfold placeZ; rw [hn])
  have HCM : Hid (∀ i, i < n → ∀ w1, Calls Tryz.prog 53 #[.string (tx (ps.getD i nd0).path), .string (tx p)] w1 fun e w' => e = .returned (.int .i64 (cmpF (partsF (ps.getD i nd0).path) (partsF p))) ∧ Only (fun _ => False) w1 w') := Lib.hid fun i hi w1 => pcompare _ p w1 (hin _ (getD_mem nd0 ps i (by omega))) (by omega)
  clear h hn hs hin HD hpl
  generalize placeZ ps p = Z at *
  generalize isDirT ps (parentF p).1 = dd at *
  generalize (parentF p).2 = ok at *
  generalize (parentF p).1 = dir at *
  by_cases h0 : n = 0
  · subst h0
    have HZ2 : Hid (Z = if ok = true ∧ dd = false then 8 else 0) := Lib.hid (HZ.out.trans (if_neg fun h => by omega))
    clear HZ HCM
    cases ok with
    | false =>
      have HZ3 : Hid (Z = 0) := HZ2
      go_enter Tryz.func43, Tryz.ntmps43
      go_wp2_with (first
        | (go_at_call 27; refine (HPR.out _).mono ?_; rintro e w2 ⟨rfl, o2⟩; have HO2 := Lib.hid ((Only.refl _ w).trans o2); clear o2))
      go_ret
      rw [HZ3.out]
      exact ⟨rfl, HO2.out⟩
    | true =>
      cases dd with
      | true =>
        have HZ3 : Hid (Z = 0) := HZ2
        go_enter Tryz.func43, Tryz.ntmps43
        go_wp2_with (first
          | (go_at_call 27; refine (HPR.out _).mono ?_; rintro e w2 ⟨rfl, o2⟩; have HO2 := Lib.hid ((Only.refl _ w).trans o2); clear o2)
          | (go_at_call 46; refine (HDP.out _ HO2.out).mono ?_; rintro e w3 ⟨rfl, o3⟩; have HO3 := Lib.hid (HO2.out.trans o3); clear o3))
        go_ret
        rw [HZ3.out]
        exact ⟨rfl, HO3.out⟩
      | false =>
        have HZ3 : Hid (Z = 8) := HZ2
        go_enter Tryz.func43, Tryz.ntmps43
        go_wp2_with (first
          | (go_at_call 27; refine (HPR.out _).mono ?_; rintro e w2 ⟨rfl, o2⟩; have HO2 := Lib.hid ((Only.refl _ w).trans o2); clear o2)
          | (go_at_call 46; refine (HDP.out _ HO2.out).mono ?_; rintro e w3 ⟨rfl, o3⟩; have HO3 := Lib.hid (HO2.out.trans o3); clear o3))
        go_ret
        rw [HZ3.out]
        exact ⟨rfl, HO3.out⟩
  · obtain ⟨j, hj⟩ : ∃ j, n - 1 = j := ⟨_, rfl⟩
    rw [hj] at HZ
    have l6 : (0 : Int) < (n : Int) := by omega
    have l7 : (n : Int) - 1 = (j : Int) := by omega
    have l8 : (j : Int) < (n : Int) := by omega
    have l9 : IntKind.i64.wrap ((n : Int) - 1) = (j : Int) := by rw [IntWalk.i64_in _ (by omega)]; exact l7
    have l10 : decide ((0 : Int) < (n : Int)) = true := decide_eq_true l6
    have l13 : IntKind.i64.wrap (j : Int) = (j : Int) := IntWalk.i64_in _ (by omega)
    have l14 : j < n := by omega
    obtain ⟨b, o, rfl, d0, _, _, _, _⟩ := see_nd HS.out (i := j) (by rw [HN.out]; exact l14)
    have HCJ := Lib.hid (HCM.out j l14)
    generalize (ps.getD j nd0).path = pv at d0 HCJ HZ
    generalize cmpF (partsF pv) (partsF p) = C at HCJ HZ
    clear HCM hj
    by_cases hc : 0 ≤ C
    · have HZ2 : Hid (Z = 2) := Lib.hid (HZ.out.trans (if_pos ⟨by omega, hc⟩))
      have m1 : decide (0 ≤ C) = true := decide_eq_true hc
      clear HZ hc
      go_enter Tryz.func43, Tryz.ntmps43
      go_wp2_with (go_at_call 53; refine (HCJ.out _).mono ?_; rintro e w1 ⟨rfl, o1⟩; have HO := Lib.hid o1; clear o1)
      go_ret
      rw [HZ2.out]
      exact ⟨rfl, HO.out⟩
    · have HZ2 : Hid (Z = if ok = true ∧ dd = false then 8 else 0) := Lib.hid (HZ.out.trans (if_neg fun h => hc h.2))
      have m1 : decide (0 ≤ C) = false := decide_eq_false hc
      clear HZ hc
      cases ok with
      | false =>
        have HZ3 : Hid (Z = 0) := HZ2
        go_enter Tryz.func43, Tryz.ntmps43
        go_wp2_with (first
          | (go_at_call 53; refine (HCJ.out _).mono ?_; rintro e w1 ⟨rfl, o1⟩; have HO := Lib.hid o1; clear o1)
          | (go_at_call 27; refine (HPR.out _).mono ?_; rintro e w2 ⟨rfl, o2⟩; have HO2 := Lib.hid (HO.out.trans o2); clear o2))
        go_ret
        rw [HZ3.out]
        exact ⟨rfl, HO2.out⟩
      | true =>
        cases dd with
        | true =>
          have HZ3 : Hid (Z = 0) := HZ2
          go_enter Tryz.func43, Tryz.ntmps43
          go_wp2_with (first
            | (go_at_call 53; refine (HCJ.out _).mono ?_; rintro e w1 ⟨rfl, o1⟩; have HO := Lib.hid o1; clear o1)
            | (go_at_call 27; refine (HPR.out _).mono ?_; rintro e w2 ⟨rfl, o2⟩; have HO2 := Lib.hid (HO.out.trans o2); clear o2)
            | (go_at_call 46; refine (HDP.out _ HO2.out).mono ?_; rintro e w3 ⟨rfl, o3⟩; have HO3 := Lib.hid (HO2.out.trans o3); clear o3))
          go_ret
          rw [HZ3.out]
          exact ⟨rfl, HO3.out⟩
        | false =>
          have HZ3 : Hid (Z = 8) := HZ2
          go_enter Tryz.func43, Tryz.ntmps43
          go_wp2_with (first
            | (go_at_call 53; refine (HCJ.out _).mono ?_; rintro e w1 ⟨rfl, o1⟩; have HO := Lib.hid o1; clear o1)
            | (go_at_call 27; refine (HPR.out _).mono ?_; rintro e w2 ⟨rfl, o2⟩; have HO2 := Lib.hid (HO.out.trans o2); clear o2)
            | (go_at_call 46; refine (HDP.out _ HO2.out).mono ?_; rintro e w3 ⟨rfl, o3⟩; have HO3 := Lib.hid (HO2.out.trans o3); clear o3))
          go_ret
          rw [HZ3.out]
          exact ⟨rfl, HO3.out⟩
end Go.Proofs.YtaeaomlhbdbbfaaGreatDoor

/- Layer 15, the landed program: do nodes make a tree; the tree of nodes. -/
namespace Go.Proofs.YtaeaomlhbdbbfaaGreatDoor
open Go.RowKit

/-- One node behind others, what is wrong: as the program asks. -/
theorem check_next {ps : List Nd} {i : Nat} (h : i < ps.length) (hs : Srt (ps.take i)) : checkG (ps.take i) (ps.drop i) = if nodeZ (ps.getD i nd0) = 0 then (if placeZ (ps.take i) (ps.getD i nd0).path = 0 then (if 0 < cntF (ps.take i) (foldF (ps.getD i nd0).path) then 6 else checkG (ps.take (i + 1)) (ps.drop (i + 1))) else placeZ (ps.take i) (ps.getD i nd0).path) else nodeZ (ps.getD i nd0) := by
  have hl : (ps.take i).length = i := by rw [List.length_take]; omega
  have hlast : 0 < i → (ps.take i).getD ((ps.take i).length - 1) nd0 = ps.getD (i - 1) nd0 := fun h0 => by
    rw [hl, List.getD_eq_getElem?_getD, List.getD_eq_getElem?_getD, List.getElem?_take, if_pos (by omega)]
  rw [check_at ps i h]
  generalize hq : ps.getD i nd0 = q
  unfold nodeZ mayPath
  cases rightF q.path with
  | false => simp
  | true =>
    cases mayRest q with
    | false => simp
    | true =>
      rw [if_neg (by decide), if_neg (by decide), if_pos rfl, if_pos rfl, if_pos rfl]
      unfold placeZ
      rw [hl]
      by_cases c1 : 0 < i ∧ 0 ≤ cmpF (partsF (ps.getD (i - 1) nd0).path) (partsF q.path)
      · rw [if_pos c1]
        have c2 : 0 < i ∧ 0 ≤ cmpF (partsF ((ps.take i).getD (i - 1) nd0).path) (partsF q.path) := by
          have := hlast c1.1
          rw [hl] at this
          rw [this]
          exact c1
        rw [if_pos c2, if_neg (by decide)]
      · rw [if_neg c1]
        have c2 : ¬ (0 < i ∧ 0 ≤ cmpF (partsF ((ps.take i).getD (i - 1) nd0).path) (partsF q.path)) := fun hh => c1 ⟨hh.1, by
          have := hlast hh.1
          rw [hl] at this
          rw [← this]
          exact hh.2⟩
        rw [if_neg c2]
        by_cases c3 : (parentF q.path).2 = true ∧ isDirT (ps.take i) (parentF q.path).1 = false
        · rw [if_pos c3, if_pos c3, if_neg (by decide)]
        · rw [if_neg c3, if_neg c3, if_pos rfl]
          have hfar : ∀ x ∈ ps.take i, x.path ≠ q.path := fun x hx e => by
            obtain ⟨j, h1, _, rfl⟩ := mem_front nd0 hx
            have hle : ¬ lessP q.path q.path := less_irrefl _
            have hlt : lessP (ps.getD (i - 1) nd0).path q.path := by
              have h0 : 0 < i := by omega
              have : ¬ 0 ≤ cmpF (partsF (ps.getD (i - 1) nd0).path) (partsF q.path) := fun hh => c1 ⟨h0, hh⟩
              show cmpF _ _ < 0
              omega
            have hj : lessP (ps.getD j nd0).path q.path := by
              rcases Nat.lt_or_ge j (i - 1) with g | g
              · have := srt_getD hs g (by rw [hl]; omega)
                rw [List.getD_eq_getElem?_getD, List.getD_eq_getElem?_getD, List.getElem?_take, if_pos (by omega), List.getElem?_take, if_pos (by omega), ← List.getD_eq_getElem?_getD, ← List.getD_eq_getElem?_getD] at this
                exact less_trans this hlt
              · obtain rfl : j = i - 1 := by omega
                exact hlt
            rw [e] at hj
            exact hle hj
          rw [coll_cnt hfar]
          by_cases c4 : 0 < cntF (ps.take i) (foldF q.path)
          · rw [if_pos c4, if_pos (decide_eq_true c4)]
          · rw [if_neg c4, if_neg (by rw [decide_eq_false c4]; decide)]
theorem place_srt {ps : List Nd} {i : Nat} (h : i < ps.length) (hs : Srt (ps.take i)) (hz : placeZ (ps.take i) (ps.getD i nd0).path = 0) : Srt (ps.take (i + 1)) := by
  have hl : (ps.take i).length = i := by rw [List.length_take]; omega
  rw [getD_take_snoc nd0 ps i h]
  refine List.pairwise_append.2 ⟨hs, List.pairwise_singleton _ _, fun x hx y hy => ?_⟩
  obtain rfl := List.mem_singleton.1 hy
  obtain ⟨j, h1, h2⟩ := mem_place nd0 hx
  unfold placeZ at hz
  split at hz
  · cases hz
  · rename_i hc
    have hlt : lessP ((ps.take i).getD ((ps.take i).length - 1) nd0).path (ps.getD i nd0).path := by
      have : ¬ 0 ≤ cmpF (partsF ((ps.take i).getD ((ps.take i).length - 1) nd0).path) (partsF (ps.getD i nd0).path) := fun hh => hc ⟨by omega, hh⟩
      show cmpF _ _ < 0
      omega
    rw [← h2]
    rcases Nat.lt_or_ge j ((ps.take i).length - 1) with g | g
    · exact less_trans (srt_getD hs g (by omega)) hlt
    · obtain rfl : j = (ps.take i).length - 1 := by omega
      exact hlt
set_option maxRecDepth 20000 in
set_option maxHeartbeats 16000000 in
theorem pcheck15 (A : Option Addr) (n c B : Nat) (ps : List Nd) (w : World) (hg : Gr w) (hg2 : GrF w) (h : See w B A (nds ps)) (hn : ps.length = n) (hcn : n ≤ c) (hb : n ≤ 2000) (hin : ∀ x ∈ ps, NdSm x) : Calls Tryz.prog 24 #[.slice A n c] w fun e w' => e = .returned (.int .i64 (checkT ps)) ∧ Only (fun _ => False) w w' := by
  have HN := Lib.hid hn
  have HS := Lib.hid h
  have HSM := Lib.hid hin
  have HG1 := Lib.hid hg
  have HG := Lib.hid hg2
  have HCT : Hid (checkT ps = checkG [] ps) := Lib.hid (by unfold checkT; rw [if_neg (by omega)])
  have HBY : Hid (∀ w1, Only (fun _ => False) w w1 → Calls Tryz.prog 39 #[.slice A n c] w1 fun e w' => e = .returned (.int .i64 (bytesT ps)) ∧ Only (fun _ => False) w1 w') := Lib.hid fun w1 o => pbytesof A n c B ps w1 (h.new o) hn hb fun x hx => (hin x hx).2.2
  have hbt : bytesT ps ≤ 4194304 := by
    have key : ∀ l : List Nd, (∀ x ∈ l, NdSm x) → bytesT l ≤ 60 * l.length := fun l => by
      induction l with
      | nil => intro _; exact Nat.le_refl _
      | cons y r ih =>
        intro hh
        have h1 := ih fun x hx => hh x (List.mem_cons_of_mem _ hx)
        have h2 := (hh y List.mem_cons_self).2.2
        rw [bytesT, List.length_cons]
        omega
    have := key ps hin
    omega
  have HBT : Hid (checkG ps [] = 0) := Lib.hid (by rw [checkG, if_neg (by omega)])
  have HPN : Hid (∀ q, NdSm q → ∀ w1, Only (fun _ => False) w w1 → Calls Tryz.prog 25 #[ndV q] w1 fun e w' => e = .returned (.int .i64 (nodeZ q)) ∧ Only (fun _ => False) w1 w') := Lib.hid fun q hq w1 o => pnode q w1 (HG1.out.keep o) (by have := hq.2.1; omega)
  have q0 : decide ((4096 : Int) < (n : Int)) = false := decide_eq_false (by omega)
  have q9 : decide ((4194304 : Int) < (bytesT ps : Nat)) = false := decide_eq_false (by omega)
  have hmm := @run_makeMap Tryz.prog
  obtain ⟨b, hbb⟩ : ∃ b, w.heap.size = b := ⟨_, rfl⟩
  obtain ⟨w0, hw0⟩ : ∃ w0, w.alloc (.map #[] 0) = w0 := ⟨_, rfl⟩
  have HM0 : Hid (FoldsAt w0 b []) := Lib.hid (by rw [← hw0, ← hbb]; exact FoldsAt.made w)
  have HFR : Hid (Only (fun _ => False) w w0) := Lib.hid (by rw [← hw0]; exact (Only.refl _ w).alloc _)
  have HBB := Lib.hid hbb
  clear hg hg2 h hn hin hbt
  generalize checkT ps = R at *
  generalize bytesT ps = bt at *
  go_enter Tryz.func24, Tryz.ntmps24
  go_wp2_with fail
  go_loopg [14] n (fun gk u wx => ∃ (i : Nat), u = .int .i64 i ∧ i + gk = n ∧ Hid (R = checkG (ps.take i) (ps.drop i)) ∧ Hid (Srt (ps.take i)) ∧ Hid (FoldsAt wx b (ps.take i)) ∧ Hid (Only (fun _ => False) w wx))
  case atStart => exact ⟨0, rfl, by omega, HCT, Lib.hid List.Pairwise.nil, HM0, HFR⟩
  case round =>
    clear hmm hbb hw0
    obtain ⟨i, rfl, hi, HC, HSR, HMP, HW⟩ := hrel
    by_cases hlt : i < n
    · have l4 : (i : Int) < (n : Int) := by omega
      have hlt2 : i < ps.length := by rw [HN.out]; exact hlt
      obtain ⟨bb, o, rfl, d0, d1, d2, d3, d4⟩ := see_nd (HS.out.new HW.out) hlt2
      have hsm := HSM.out _ (getD_mem nd0 ps i hlt2)
      have HCA := Lib.hid (check_next hlt2 HSR.out)
      have HPS : Hid (placeZ (ps.take i) (ps.getD i nd0).path = 0 → Srt (ps.take (i + 1))) := Lib.hid (place_srt hlt2 HSR.out)
      have HTK := Lib.hid (getD_take_snoc nd0 ps i hlt2)
      have hlt3 : (ps.take i).length = i := by rw [List.length_take, HN.out]; omega
      have HPL : Hid (∀ w5, Only (fun _ => False) w w5 → Calls Tryz.prog 43 #[.slice (some ⟨bb, o, none⟩) i c, .string (tx (ps.getD i nd0).path)] w5 fun e w' => e = .returned (.int .i64 (placeZ (ps.take i) (ps.getD i nd0).path)) ∧ Only (fun _ => False) w5 w') := Lib.hid fun w5 o5 => pplace _ i c B (ps.take i) _ w5 (see_take (HS.out.new o5) i) hlt3 (by omega) HSR.out (fun x hx => by have := (HSM.out x (List.mem_of_mem_take hx)).2.1; omega) (by have := hsm.2.1; omega)
      clear hlt2
      generalize ps.getD i nd0 = q at d0 d1 d2 d3 d4 hsm HCA HTK HPS HPL
      have hq60 := hsm.2.1
      have HPQ := Lib.hid (HPN.out q hsm)
      generalize ps.take i = done at *
      have HME : Hid (∀ w5, Only (fun _ => False) w w5 → FoldsAt w5 b done → Calls Tryz.prog 41 #[.map (some b), .string (tx q.path)] w5 fun e w' => e = .returned (.bool (decide (0 < cntF done (foldF q.path)))) ∧ FoldsAt w' b (done ++ [q]) ∧ Only (· = b) w5 w') := Lib.hid fun w5 o5 h5 => pmeet b done q w5 (HG.out.keep o5) h5 (by omega) (by omega)
      rw [← HTK.out] at HME
      clear hsm
      obtain ⟨NZ, hNZ⟩ : ∃ NZ, nodeZ q = NZ := ⟨_, rfl⟩
      obtain ⟨PZ, hPZ⟩ : ∃ PZ, placeZ done q.path = PZ := ⟨_, rfl⟩
      rw [hNZ] at HPQ HCA
      rw [hPZ] at HPL HCA HPS
      clear hNZ hPZ
      obtain ⟨X, hX⟩ : ∃ X, wr.heap.size = X := ⟨_, rfl⟩
      have hbX : b < X := by have := HMP.out.lt; omega
      have HXX := Lib.hid hX
      have hic : i ≤ c := by omega
      have mixed : Tryz.prog.follows .mixedOrders = true := by kernel_rfl
      by_cases z1 : NZ = 0
      · subst z1
        by_cases z2 : PZ = 0
        · subst z2
          have HSR2 := Lib.hid (HPS.out rfl)
          by_cases z3 : 0 < cntF done (foldF q.path)
          · rw [decide_eq_true z3] at HME
            have HE : Hid (R = 6) := Lib.hid (by rw [HC.out, HCA.out, if_pos rfl, if_pos rfl, if_pos z3])
            clear HCA HC HPS z3
            go_upto_region 10 with (first
              | ((with_reducible show wpList _ _ _ (Oper.mk _ (Op.store _ _ _) _ _ _ _ :: _) _ _)
                 refine wpList_store_is rfl 29 (.tmp 5) (.tmp 18) rfl X (ndVals q) rfl rfl 29 [.string ⟨#[]⟩, .bool false, .string ⟨#[]⟩, .int .i64 0, .int .i64 0] (by rw [← HXX.out]; exact Is.new wr _ _) infoNd5 rfl (by simp [ndVals, Value.oneCell']) ?_
                 intro w5 i5 o5
                 have HI5 := Lib.hid i5
                 have e0 := i5.cell 0 rfl
                 have e1 := i5.cell 1 rfl
                 have e2 := i5.cell 2 rfl
                 have e3 := i5.cell 3 rfl
                 have e4 := i5.cell 4 rfl
                 have HW5 : Hid (Only (fun _ => False) w w5) := Lib.hid ((HW.out.alloc _).andThen o5 (by intro j hj; right; rw [hj, ← HXX.out]; exact HW.out.size))
                 have HM5 : Hid (FoldsAt w5 b done) := Lib.hid ((HMP.out.only ((Only.refl (fun _ => False) wr).alloc _) (fun q => q)).only o5 (fun e => by omega))
                 clear i5 o5)
              | (go_at_call 25; refine (HPQ.out _ HW5.out).mono ?_; rintro e w6 ⟨rfl, o6⟩; have HW6 := Lib.hid (HW5.out.trans o6); have HI6 := Lib.hid (HI5.out.only o6 (fun q => q)); have HM6 := Lib.hid (HM5.out.only o6 (fun q => q)); have f0 := only_cell e0 o6; clear o6))
            refine Steps.region (fun W => W.cell? ⟨X, 0, none⟩ = some (.string (tx q.path))) [(true, 0), (true, 1), (true, 2), (true, 3), (true, 4), (false, 5), (true, 6)] (by kernel_rfl) (by kernel_rfl) rfl (by kernel_rfl) (fun _ _ d _ _ h => by cases d <;> exact h) ?_
            have HSW : Hid (w6.drew.cell? ⟨X, 0, none⟩ = some (.string (tx q.path))) := Lib.hid f0
            refine Steps.wanted (.slice (some ⟨bb, o, none⟩) n c) rfl (by rfl) HSW.out (fun W hW => by kernel_rfl) ?_
            simp only [Act.put, List.setIfInBounds_toArray, List.set_cons_succ, List.set_cons_zero]
            refine Steps.wanted (.int .i64 i) rfl (by rfl) HSW.out (fun W hW => by kernel_rfl) ?_
            simp only [Act.put, List.setIfInBounds_toArray, List.set_cons_succ, List.set_cons_zero]
            refine Steps.wanted (.slice (some ⟨bb, o, none⟩) i c) rfl (by rfl) HSW.out (fun W hW => by go_simp) ?_
            simp only [Act.put, List.setIfInBounds_toArray, List.set_cons_succ, List.set_cons_zero]
            refine Steps.wanted (.pointer (some ⟨X, 0, none⟩)) rfl (by rfl) HSW.out (fun W hW => by go_simp) ?_
            simp only [Act.put, List.setIfInBounds_toArray, List.set_cons_succ, List.set_cons_zero]
            refine Steps.wanted (.string (tx q.path)) rfl (by rfl) HSW.out (fun W hW => by have cc := hW; go_simp) ?_
            simp only [Act.put, List.setIfInBounds_toArray, List.set_cons_succ, List.set_cons_zero]
            refine Steps.callG 43 #[.slice (some ⟨bb, o, none⟩) i c, .string (tx q.path)] rfl (by rfl) (by kernel_rfl) ((HPL.out _ HW6.out.drew).mono ?_)
            rintro e w8 ⟨rfl, o8⟩
            have HW8 := Lib.hid (HW6.out.drew.trans o8)
            have HM8 := Lib.hid ((HM6.out.only ((Only.refl (fun _ => False) w6).drew) (fun q => q)).only o8 (fun q => q))
            have HSW2 := Lib.hid (only_cell HSW.out o8)
            have g0 := HSW2.out
            clear HSW o8
            refine ⟨_, rfl, HSW2.out, ?_⟩
            simp only [Act.put, List.setIfInBounds_toArray, List.set_cons_succ, List.set_cons_zero]
            refine Steps.wanted (.int .i64 0) rfl (by rfl) HSW2.out (fun W hW => by kernel_rfl) ?_
            simp only [Act.put, List.setIfInBounds_toArray, List.set_cons_succ, List.set_cons_zero]
            show wpList _ _ _ _ _ _
            go_wp2_with (go_at_call 41; refine (HME.out _ HW8.out HM8.out).mono ?_; rintro e w7 ⟨rfl, m7, o7⟩; have HM7 := Lib.hid m7; have HW7 : Hid (Only (fun _ => False) w w7) := Lib.hid (HW8.out.andThen o7 (by rintro j rfl; exact .inr (Nat.le_of_eq HBB.out))); clear m7 o7)
            go_ret
            rw [HE.out]
            exact ⟨rfl, HW7.out⟩
          · rw [decide_eq_false z3] at HME
            have HE : Hid (R = checkG (ps.take (i + 1)) (ps.drop (i + 1))) := Lib.hid (by rw [HC.out, HCA.out, if_pos rfl, if_pos rfl, if_neg z3])
            clear HCA HC HPS z3
            go_upto_region 10 with (first
              | ((with_reducible show wpList _ _ _ (Oper.mk _ (Op.store _ _ _) _ _ _ _ :: _) _ _)
                 refine wpList_store_is rfl 29 (.tmp 5) (.tmp 18) rfl X (ndVals q) rfl rfl 29 [.string ⟨#[]⟩, .bool false, .string ⟨#[]⟩, .int .i64 0, .int .i64 0] (by rw [← HXX.out]; exact Is.new wr _ _) infoNd5 rfl (by simp [ndVals, Value.oneCell']) ?_
                 intro w5 i5 o5
                 have HI5 := Lib.hid i5
                 have e0 := i5.cell 0 rfl
                 have e1 := i5.cell 1 rfl
                 have e2 := i5.cell 2 rfl
                 have e3 := i5.cell 3 rfl
                 have e4 := i5.cell 4 rfl
                 have HW5 : Hid (Only (fun _ => False) w w5) := Lib.hid ((HW.out.alloc _).andThen o5 (by intro j hj; right; rw [hj, ← HXX.out]; exact HW.out.size))
                 have HM5 : Hid (FoldsAt w5 b done) := Lib.hid ((HMP.out.only ((Only.refl (fun _ => False) wr).alloc _) (fun q => q)).only o5 (fun e => by omega))
                 clear i5 o5)
              | (go_at_call 25; refine (HPQ.out _ HW5.out).mono ?_; rintro e w6 ⟨rfl, o6⟩; have HW6 := Lib.hid (HW5.out.trans o6); have HI6 := Lib.hid (HI5.out.only o6 (fun q => q)); have HM6 := Lib.hid (HM5.out.only o6 (fun q => q)); have f0 := only_cell e0 o6; clear o6))
            refine Steps.region (fun W => W.cell? ⟨X, 0, none⟩ = some (.string (tx q.path))) [(true, 0), (true, 1), (true, 2), (true, 3), (true, 4), (false, 5), (true, 6)] (by kernel_rfl) (by kernel_rfl) rfl (by kernel_rfl) (fun _ _ d _ _ h => by cases d <;> exact h) ?_
            have HSW : Hid (w6.drew.cell? ⟨X, 0, none⟩ = some (.string (tx q.path))) := Lib.hid f0
            refine Steps.wanted (.slice (some ⟨bb, o, none⟩) n c) rfl (by rfl) HSW.out (fun W hW => by kernel_rfl) ?_
            simp only [Act.put, List.setIfInBounds_toArray, List.set_cons_succ, List.set_cons_zero]
            refine Steps.wanted (.int .i64 i) rfl (by rfl) HSW.out (fun W hW => by kernel_rfl) ?_
            simp only [Act.put, List.setIfInBounds_toArray, List.set_cons_succ, List.set_cons_zero]
            refine Steps.wanted (.slice (some ⟨bb, o, none⟩) i c) rfl (by rfl) HSW.out (fun W hW => by go_simp) ?_
            simp only [Act.put, List.setIfInBounds_toArray, List.set_cons_succ, List.set_cons_zero]
            refine Steps.wanted (.pointer (some ⟨X, 0, none⟩)) rfl (by rfl) HSW.out (fun W hW => by go_simp) ?_
            simp only [Act.put, List.setIfInBounds_toArray, List.set_cons_succ, List.set_cons_zero]
            refine Steps.wanted (.string (tx q.path)) rfl (by rfl) HSW.out (fun W hW => by have cc := hW; go_simp) ?_
            simp only [Act.put, List.setIfInBounds_toArray, List.set_cons_succ, List.set_cons_zero]
            refine Steps.callG 43 #[.slice (some ⟨bb, o, none⟩) i c, .string (tx q.path)] rfl (by rfl) (by kernel_rfl) ((HPL.out _ HW6.out.drew).mono ?_)
            rintro e w8 ⟨rfl, o8⟩
            have HW8 := Lib.hid (HW6.out.drew.trans o8)
            have HM8 := Lib.hid ((HM6.out.only ((Only.refl (fun _ => False) w6).drew) (fun q => q)).only o8 (fun q => q))
            have HSW2 := Lib.hid (only_cell HSW.out o8)
            have g0 := HSW2.out
            clear HSW o8
            refine ⟨_, rfl, HSW2.out, ?_⟩
            simp only [Act.put, List.setIfInBounds_toArray, List.set_cons_succ, List.set_cons_zero]
            refine Steps.wanted (.int .i64 0) rfl (by rfl) HSW2.out (fun W hW => by kernel_rfl) ?_
            simp only [Act.put, List.setIfInBounds_toArray, List.set_cons_succ, List.set_cons_zero]
            show wpList _ _ _ _ _ _
            go_wp2_with (go_at_call 41; refine (HME.out _ HW8.out HM8.out).mono ?_; rintro e w7 ⟨rfl, m7, o7⟩; have HM7 := Lib.hid m7; have HW7 : Hid (Only (fun _ => False) w w7) := Lib.hid (HW8.out.andThen o7 (by rintro j rfl; exact .inr (Nat.le_of_eq HBB.out))); clear m7 o7)
            go_roundg (gk - 1)
            case measure => omega
            case rel => exact ⟨i + 1, by go_num, by omega, HE, HSR2, HM7, HW7⟩
        · have HE : Hid (R = PZ) := Lib.hid (by rw [HC.out, HCA.out, if_pos rfl, if_neg z2])
          have z4 : (PZ == 0) = false := by rw [beq_eq_false_iff_ne]; exact z2
          clear HCA HC HPS
          go_upto_region 10 with (first
            | ((with_reducible show wpList _ _ _ (Oper.mk _ (Op.store _ _ _) _ _ _ _ :: _) _ _)
               refine wpList_store_is rfl 29 (.tmp 5) (.tmp 18) rfl X (ndVals q) rfl rfl 29 [.string ⟨#[]⟩, .bool false, .string ⟨#[]⟩, .int .i64 0, .int .i64 0] (by rw [← HXX.out]; exact Is.new wr _ _) infoNd5 rfl (by simp [ndVals, Value.oneCell']) ?_
               intro w5 i5 o5
               have HI5 := Lib.hid i5
               have e0 := i5.cell 0 rfl
               have e1 := i5.cell 1 rfl
               have e2 := i5.cell 2 rfl
               have e3 := i5.cell 3 rfl
               have e4 := i5.cell 4 rfl
               have HW5 : Hid (Only (fun _ => False) w w5) := Lib.hid ((HW.out.alloc _).andThen o5 (by intro j hj; right; rw [hj, ← HXX.out]; exact HW.out.size))
               have HM5 : Hid (FoldsAt w5 b done) := Lib.hid ((HMP.out.only ((Only.refl (fun _ => False) wr).alloc _) (fun q => q)).only o5 (fun e => by omega))
               clear i5 o5)
            | (go_at_call 25; refine (HPQ.out _ HW5.out).mono ?_; rintro e w6 ⟨rfl, o6⟩; have HW6 := Lib.hid (HW5.out.trans o6); have HI6 := Lib.hid (HI5.out.only o6 (fun q => q)); have HM6 := Lib.hid (HM5.out.only o6 (fun q => q)); have f0 := only_cell e0 o6; clear o6))
          refine Steps.region (fun W => W.cell? ⟨X, 0, none⟩ = some (.string (tx q.path))) [(true, 0), (true, 1), (true, 2), (true, 3), (true, 4), (false, 5), (true, 6)] (by kernel_rfl) (by kernel_rfl) rfl (by kernel_rfl) (fun _ _ d _ _ h => by cases d <;> exact h) ?_
          have HSW : Hid (w6.drew.cell? ⟨X, 0, none⟩ = some (.string (tx q.path))) := Lib.hid f0
          refine Steps.wanted (.slice (some ⟨bb, o, none⟩) n c) rfl (by rfl) HSW.out (fun W hW => by kernel_rfl) ?_
          simp only [Act.put, List.setIfInBounds_toArray, List.set_cons_succ, List.set_cons_zero]
          refine Steps.wanted (.int .i64 i) rfl (by rfl) HSW.out (fun W hW => by kernel_rfl) ?_
          simp only [Act.put, List.setIfInBounds_toArray, List.set_cons_succ, List.set_cons_zero]
          refine Steps.wanted (.slice (some ⟨bb, o, none⟩) i c) rfl (by rfl) HSW.out (fun W hW => by go_simp) ?_
          simp only [Act.put, List.setIfInBounds_toArray, List.set_cons_succ, List.set_cons_zero]
          refine Steps.wanted (.pointer (some ⟨X, 0, none⟩)) rfl (by rfl) HSW.out (fun W hW => by go_simp) ?_
          simp only [Act.put, List.setIfInBounds_toArray, List.set_cons_succ, List.set_cons_zero]
          refine Steps.wanted (.string (tx q.path)) rfl (by rfl) HSW.out (fun W hW => by have cc := hW; go_simp) ?_
          simp only [Act.put, List.setIfInBounds_toArray, List.set_cons_succ, List.set_cons_zero]
          refine Steps.callG 43 #[.slice (some ⟨bb, o, none⟩) i c, .string (tx q.path)] rfl (by rfl) (by kernel_rfl) ((HPL.out _ HW6.out.drew).mono ?_)
          rintro e w7 ⟨rfl, o8⟩
          have HW7 := Lib.hid (HW6.out.drew.trans o8)
          have HM8 := Lib.hid ((HM6.out.only ((Only.refl (fun _ => False) w6).drew) (fun q => q)).only o8 (fun q => q))
          have HSW2 := Lib.hid (only_cell HSW.out o8)
          have g0 := HSW2.out
          clear HSW o8
          refine ⟨_, rfl, HSW2.out, ?_⟩
          simp only [Act.put, List.setIfInBounds_toArray, List.set_cons_succ, List.set_cons_zero]
          refine Steps.wanted (.int .i64 PZ) rfl (by rfl) HSW2.out (fun W hW => by kernel_rfl) ?_
          simp only [Act.put, List.setIfInBounds_toArray, List.set_cons_succ, List.set_cons_zero]
          show wpList _ _ _ _ _ _
          go_wp2
          go_ret
          rw [HE.out]
          exact ⟨rfl, HW7.out⟩
      · have HE : Hid (R = NZ) := Lib.hid (by rw [HC.out, HCA.out, if_neg z1])
        have z4 : (NZ == 0) = false := by rw [beq_eq_false_iff_ne]; exact z1
        clear HCA HC HPS
        go_wp2_with (first
          | ((with_reducible show wpList _ _ _ (Oper.mk _ (Op.store _ _ _) _ _ _ _ :: _) _ _)
             refine wpList_store_is rfl 29 (.tmp 5) (.tmp 18) rfl X (ndVals q) rfl rfl 29 [.string ⟨#[]⟩, .bool false, .string ⟨#[]⟩, .int .i64 0, .int .i64 0] (by rw [← HXX.out]; exact Is.new wr _ _) infoNd5 rfl (by simp [ndVals, Value.oneCell']) ?_
             intro w5 i5 o5
             have HI5 := Lib.hid i5
             have e0 := i5.cell 0 rfl
             have e1 := i5.cell 1 rfl
             have e2 := i5.cell 2 rfl
             have e3 := i5.cell 3 rfl
             have e4 := i5.cell 4 rfl
             have HW5 : Hid (Only (fun _ => False) w w5) := Lib.hid ((HW.out.alloc _).andThen o5 (by intro j hj; right; rw [hj, ← HXX.out]; exact HW.out.size))
             have HM5 : Hid (FoldsAt w5 b done) := Lib.hid ((HMP.out.only ((Only.refl (fun _ => False) wr).alloc _) (fun q => q)).only o5 (fun e => by omega))
             clear i5 o5)
          | (go_at_call 25; refine (HPQ.out _ HW5.out).mono ?_; rintro e w6 ⟨rfl, o6⟩; have HW6 := Lib.hid (HW5.out.trans o6); have HI6 := Lib.hid (HI5.out.only o6 (fun q => q)); have HM6 := Lib.hid (HM5.out.only o6 (fun q => q)); have f0 := only_cell e0 o6; clear o6))
        go_ret
        rw [HE.out]
        exact ⟨rfl, HW6.out⟩
    · obtain rfl : i = n := by omega
      have HE : Hid (R = 0) := Lib.hid (by rw [HC.out, List.drop_of_length_le (by rw [HN.out]; exact Nat.le_refl _), List.take_of_length_le (by rw [HN.out]; exact Nat.le_refl _), HBT.out])
      go_wp2_with (go_at_call 39; refine (HBY.out _ HW.out).mono ?_; rintro e w7 ⟨rfl, o7⟩; have HW7 := Lib.hid (HW.out.trans o7); clear o7)
      go_ret
      rw [HE.out]
      exact ⟨rfl, HW7.out⟩
end Go.Proofs.YtaeaomlhbdbbfaaGreatDoor
