/- Layer 15, the landed program: Put, Ensure, Remove, Clear; New, All, Len, Bytes, Get, List. -/
import Derived.Test.YtaeaomlhbdbbfaaGreatDoorTpI
import Derived.Test.YtaeaomlhbdbbfaaGreatDoorTnS
/- Layer 15, the landed program: a node is laid into the tree. -/
namespace Go.Proofs.YtaeaomlhbdbbfaaGreatDoor
open Go.RowKit

/-- v is a tree of the nodes ps, in the blocks F. -/
def Tr15 (v : Value) (ps : List Nd) (F : Nat → Prop) (w : World) : Prop := ∃ g A c, v = .pointer (some ⟨g, 0, none⟩) ∧ TrAt w g A c ps ∧ ∀ q, F q ↔ q = g ∨ Lies A q
theorem do_of {w w' : World} {g : Nat} {A : Option Addr} {F : Nat → Prop} {r : List Nd × Int} {e : Ending} (hF : ∀ q, F q ↔ q = g ∨ Lies A q) (h : EdT w g A r.1 w') (he : e = .returned (.int .i64 r.2)) : DoT Tr15 (.pointer (some ⟨g, 0, none⟩)) F w r e w' := by
  obtain ⟨A', c', t, l, o⟩ := h
  refine ⟨he, fun q => q = g ∨ Lies A' q, ⟨g, A', c', rfl, t, fun q => Iff.rfl⟩, fun q hq => ?_, o.mono fun q hq => (hF q).2 hq⟩
  rcases hq with q1 | q1
  · exact .inl ((hF q).2 (.inl q1))
  · rcases l q q1 with q2 | q2
    · exact .inl ((hF q).2 (.inr q2))
    · exact .inr q2
theorem few_short {ps : List Nd} (h : Few ps) : ShortP ps := fun x hx => by have := (h.2.1 x hx).2.1; omega
theorem form_ne {ps : List Nd} (h : Form ps) : ∀ n ∈ ps, n.path ≠ [] := fun n hn => right_ne (h.may n hn).1
/-- Where a node is laid: the tree as it then is, the node in a block of its own. -/
structure PutAt (w0 : World) (g : Nat) (A : Option Addr) (X : Nat) (x : Nd) (qs : List Nd) (wx : World) : Prop where
  tr : ∃ A1 c1, TrAt wx g A1 c1 qs ∧ ∀ j, Lies A1 j → Lies A j ∨ w0.heap.size ≤ j
  only : Only (fun q => q = g ∨ Lies A q) w0 wx
  node : Is wx X 29 (ndVals x)
  low : X < w0.heap.size ∧ X ≠ g ∧ ¬ Lies A X
section
variable {w w0 wx wy : World} {g : Nat} {A : Option Addr} {X : Nat} {x : Nd} {qs rs : List Nd}
theorem PutAt.next {A1 : Option Addr} (h : PutAt w0 g A X x qs wx) (l : ∀ j, Lies A1 j → Lies A j ∨ w0.heap.size ≤ j) (ed : EdT wx g A1 rs wy) : PutAt w0 g A X x rs wy := by
  obtain ⟨A2, c2, t2, l2, o2⟩ := ed
  obtain ⟨h1, h2, h3⟩ := h.low
  refine ⟨⟨A2, c2, t2, fun j hj => ?_⟩, h.only.andThen o2 fun j hj => ?_, h.node.only o2 fun hh => ?_, h.low⟩
  · rcases l2 j hj with q | q
    · exact l j q
    · exact .inr (Nat.le_trans h.only.size q)
  · rcases hj with q | q
    · exact .inl (.inl q)
    · exact (l j q).imp .inr id
  · rcases hh with q | q
    · exact h2 q
    · rcases l X q with q | q
      · exact h3 q
      · omega
theorem PutAt.later (h : PutAt w0 g A X x qs wx) (o : Only (fun _ => False) wx wy) : PutAt w0 g A X x qs wy := by
  obtain ⟨A1, c1, t, l⟩ := h.tr
  exact ⟨⟨A1, c1, t.new o, l⟩, h.only.trans (o.mono fun _ f => f.elim), h.node.only o (fun f => f), h.low⟩
theorem PutAt.done (h : PutAt w0 g A X x qs wx) (o : Only (fun _ => False) w w0) : EdT w g A qs wx := by
  obtain ⟨A1, c1, t, l⟩ := h.tr
  exact ⟨A1, c1, t, fun j hj => (l j hj).imp id fun q => Nat.le_trans o.size q, (o.mono fun _ f => f.elim).trans h.only⟩
theorem PutAt.ensure (h : PutAt w0 g A X x qs wx) (p : List UInt8) (hg : Gr wx) (hb : qs.length ≤ 6000) (hs : Srt qs) (hin : ShortP qs) (hp : rightF p = true) (hl : p.length ≤ 2000) : Calls Tryz.prog 28 #[.pointer (some ⟨g, 0, none⟩), .string (tx p)] wx fun e w' => e = .returned (.tuple #[]) ∧ PutAt w0 g A X x ((begs p).foldl ensStep qs) w' := by
  obtain ⟨A1, c1, t, l⟩ := h.tr
  exact (pensure0 g A1 c1 qs p wx hg t hb hs hin hp hl).mono fun e w' k => ⟨k.1, h.next l k.2⟩
theorem PutAt.clear (h : PutAt w0 g A X x qs wx) (p : List UInt8) (hb : qs.length ≤ 6000) (hs : Srt qs) (hin : ShortP qs) (hne : ∀ n ∈ qs, n.path ≠ []) (hl : p.length ≤ 2000) : Calls Tryz.prog 10 #[.pointer (some ⟨g, 0, none⟩), .string (tx p)] wx fun e w' => (∃ k : Int, e = .returned (.int .i64 k)) ∧ PutAt w0 g A X x (dropT qs p false) w' := by
  obtain ⟨A1, c1, t, l⟩ := h.tr
  exact (pclear0 g A1 c1 qs p wx t hb hs hin hne hl).mono fun e w' k => ⟨⟨_, k.1⟩, h.next l k.2⟩
theorem PutAt.set (h : PutAt w0 g A X x qs wx) (hb : qs.length ≤ 9000) (hs : Srt qs) (hin : ShortP qs) (hl : x.path.length ≤ 2000) : Calls Tryz.prog 29 #[.pointer (some ⟨g, 0, none⟩), ndV x] wx fun e w' => e = .returned (.tuple #[]) ∧ PutAt w0 g A X x (setT qs x) w' := by
  obtain ⟨A1, c1, t, l⟩ := h.tr
  exact (psetV g A1 c1 qs x.path x.dir x.data x.mode x.time wx t hb hs hin hl).mono fun e w' k => ⟨k.1, h.next l k.2⟩
end
theorem done_put (ps : List Nd) (n : Nd) : doneT ps ⟨0, n⟩ = if nodeZ n = 0 then (putT ps n, 0) else (ps, nodeZ n) := by
  unfold doneT nodeZ kindD mayPath
  cases rightF n.path <;> cases mayRest n <;> simp
/-- What the program makes of the tree, a node that may be being put: its parents, what is under it, itself. -/
theorem put_is {ps : List Nd} (hf : Form ps) {n : Nd} (hp : rightF n.path = true) : putT ps n = setT (if n.dir = true then headT ps n.path else dropT (headT ps n.path) n.path false) n := by
  obtain ⟨h1, _⟩ := head_form hp hf
  unfold putT
  by_cases hd : n.dir = true
  · rw [if_pos hd, if_pos hd]
  · rw [if_neg hd, if_neg hd, set_drop2 h1.srt (right_ne hp)]
theorem head_few {ps : List Nd} (hf : Few ps) {p : List UInt8} (hp : rightF p = true) (hl : p.length ≤ 60) : Srt (headT ps p) ∧ ShortP (headT ps p) ∧ (headT ps p).length ≤ 2100 ∧ ∀ n ∈ headT ps p, n.path ≠ [] := by
  obtain ⟨h1, _⟩ := head_form hp hf.1
  obtain ⟨h2, h3⟩ := head_in p ps (by omega) fun n hn => (hf.2.1 n hn).1
  have h4 := hf.2.2
  exact ⟨h1.srt, fun x hx => (h3 x hx).1, by omega, form_ne h1⟩
end Go.Proofs.YtaeaomlhbdbbfaaGreatDoor

/- Layer 15, the landed program: Put. -/
namespace Go.Proofs.YtaeaomlhbdbbfaaGreatDoor
open Go.RowKit

set_option maxRecDepth 20000 in
set_option maxHeartbeats 8000000 in
theorem pput15 {v : Value} {ps : List Nd} {F : Nat → Prop} (n : Nd) (w : World) (hg : Gr w) (hT : Tr15 v ps F w) (hf : Few ps) (hn : NdSm n) : Calls Tryz.prog 7 #[v, ndV n] w (DoT Tr15 v F w (doneT ps ⟨0, n⟩)) := by
  obtain ⟨g, A, c, rfl, ht, hF⟩ := hT
  refine Calls.mono (R := fun e w' => e = .returned (.int .i64 (doneT ps ⟨0, n⟩).2) ∧ EdT w g A (doneT ps ⟨0, n⟩).1 w') ?_ fun e w' k => do_of hF k.2 k.1
  rw [done_put]
  clear hF
  obtain ⟨X, hX⟩ : ∃ X, w.heap.size = X := ⟨_, rfl⟩
  obtain ⟨w0, hw0⟩ : ∃ w0, w.alloc (.cells #[.string (tx n.path), .bool n.dir, .string (tx n.data), .int .i64 n.mode, .int .i64 n.time] 29) = w0 := ⟨_, rfl⟩
  have hfr : Only (fun _ => False) w w0 := by rw [← hw0]; exact (Only.refl _ w).alloc _
  have hI : Is w0 X 29 (ndVals n) := by
    rw [← hw0, ← hX]
    exact Is.new w _ _
  have HP0 : Hid (PutAt w0 g A X n ps w0) := Lib.hid ⟨⟨A, c, ht.new hfr, fun j hj => .inl hj⟩, Only.refl _ _, hI, hI.lt, fun e => by have := ht.hold.lt; omega, fun hh => by have := rs_lies ht.row X hh; omega⟩
  have HFR := Lib.hid hfr
  have hp60 := hn.2.1
  have HN : Hid (∀ w1, Only (fun _ => False) w w1 → Calls Tryz.prog 25 #[ndV n] w1 fun e w' => e = .returned (.int .i64 (nodeZ n)) ∧ Only (fun _ => False) w1 w') := Lib.hid fun w1 o => pnode n w1 (hg.keep o) (by omega)
  have HG : Hid (∀ w1, Only (fun _ => False) w w1 → Gr w1) := Lib.hid fun w1 o => hg.keep o
  have HT := Lib.hid ht
  have HFW := Lib.hid hf
  have x0 := hI.cell 0 rfl
  have x1 := hI.cell 1 rfl
  have x2 := hI.cell 2 rfl
  have x3 := hI.cell 3 rfl
  have x4 := hI.cell 4 rfl
  clear hfr hI hg ht hf hn
  by_cases hz : nodeZ n = 0
  · rw [if_pos hz]
    have hr : rightF n.path = true := ((nodeZ_ok n).1 hz).1
    rw [hz] at HN
    clear hz
    have HFL : Hid (∀ w1, Only (fun _ => False) w w1 → Calls Tryz.prog 26 #[.pointer (some ⟨g, 0, none⟩), .string (tx n.path)] w1 fun e w' => e = .returned (.bool false) ∧ Only (fun _ => False) w1 w') := Lib.hid fun w1 o => pfills g A c ps n.path w1 (HG.out w1 o) (HT.out.new o) HFW.out.2.2 HFW.out.1.srt (few_short HFW.out) hr hp60
    have HPR : Hid (∀ w1, Calls Tryz.prog 27 #[.string (tx n.path)] w1 fun e w' => e = .returned (.tuple #[.string (tx (parentF n.path).1), .bool (parentF n.path).2]) ∧ Only (fun _ => False) w1 w') := Lib.hid fun w1 => pparent n.path w1 (by omega)
    have HPI : Hid (putT ps n = setT (if n.dir = true then headT ps n.path else dropT (headT ps n.path) n.path false) n) := Lib.hid (put_is HFW.out.1 hr)
    have HHF : Hid (headT ps n.path = if (parentF n.path).2 = true then (begs (parentF n.path).1).foldl ensStep ps else ps) := Lib.hid (head_fold HFW.out.1 hr)
    have HH := Lib.hid (head_few HFW.out hr hp60)
    have HRP : Hid ((parentF n.path).2 = true → rightF (parentF n.path).1 = true ∧ (parentF n.path).1.length ≤ 2000) := Lib.hid fun h => ⟨right_parent hr h, by have := parent_len n.path; omega⟩
    clear hr
    generalize headT ps n.path = hs at *
    generalize putT ps n = fin at *
    obtain ⟨pa, di, da, mo, ti⟩ := n
    simp only at x0 x1 x2 x3 x4 HN HFL HPR HPI HHF HH HRP hw0 hp60
    generalize (parentF pa).1 = pp at *
    cases hq : (parentF pa).2 with
    | true =>
      have HRP2 := Lib.hid (HRP.out hq)
      rw [hq] at HPR HHF
      have HHF2 : Hid (hs = (begs pp).foldl ensStep ps) := Lib.hid (HHF.out.trans (if_pos rfl))
      clear hq HRP HHF
      cases di with
      | true =>
        have HPI2 : Hid (fin = setT hs ⟨pa, true, da, mo, ti⟩) := Lib.hid (HPI.out.trans (by rw [if_pos (by rfl)]))
        clear HPI
        go_enter Tryz.func7, Tryz.ntmps7
        go_wp2_with (first
          | (go_at_call 25; refine (HN.out _ HFR.out).mono ?_; rintro e w1 ⟨rfl, o1⟩; have HO1 := Lib.hid (HFR.out.trans o1); have HP1 := Lib.hid (HP0.out.later o1); clear o1; have I1 := HP1.out.node; have z0 := I1.cell 0 rfl; have z1 := I1.cell 1 rfl; have z2 := I1.cell 2 rfl; have z3 := I1.cell 3 rfl; have z4 := I1.cell 4 rfl; clear I1)
          | (go_at_call 26; refine (HFL.out _ HO1.out).mono ?_; rintro e w2 ⟨rfl, o2⟩; have HO2 := Lib.hid (HO1.out.trans o2); have HP2 := Lib.hid (HP1.out.later o2); clear o2; have I2 := HP2.out.node; have z0 := I2.cell 0 rfl; have z1 := I2.cell 1 rfl; have z2 := I2.cell 2 rfl; have z3 := I2.cell 3 rfl; have z4 := I2.cell 4 rfl; clear I2)
          | (go_at_call 27; refine (HPR.out _).mono ?_; rintro e w3 ⟨rfl, o3⟩; have HO3 := Lib.hid (HO2.out.trans o3); have HP3 := Lib.hid (HP2.out.later o3); clear o3; have I3 := HP3.out.node; have z0 := I3.cell 0 rfl; have z1 := I3.cell 1 rfl; have z2 := I3.cell 2 rfl; have z3 := I3.cell 3 rfl; have z4 := I3.cell 4 rfl; clear I3)
          | (go_at_call 28; refine (HP3.out.ensure pp (HG.out _ HO3.out) (by have := HFW.out.2.2; omega) HFW.out.1.srt (few_short HFW.out) HRP2.out.1 HRP2.out.2).mono ?_; rintro e w4 ⟨rfl, k4⟩; rw [← HHF2.out] at k4; have HP4 := Lib.hid k4; clear k4; have I4 := HP4.out.node; have z0 := I4.cell 0 rfl; have z1 := I4.cell 1 rfl; have z2 := I4.cell 2 rfl; have z3 := I4.cell 3 rfl; have z4 := I4.cell 4 rfl; clear I4)
          | (go_at_call 29; refine (HP4.out.set (by have := HH.out.2.2.1; omega) HH.out.1 HH.out.2.1 (show pa.length ≤ 2000 by omega)).mono ?_; rintro e w6 ⟨rfl, k7⟩; rw [← HPI2.out] at k7; have HE := Lib.hid (k7.done HFR.out); clear k7))
        go_ret
        exact ⟨rfl, HE.out⟩
      | false =>
        have HPI2 : Hid (fin = setT (dropT hs pa false) ⟨pa, false, da, mo, ti⟩) := Lib.hid (HPI.out.trans (by rw [if_neg (by decide)]))
        clear HPI
        go_enter Tryz.func7, Tryz.ntmps7
        go_wp2_with (first
          | (go_at_call 25; refine (HN.out _ HFR.out).mono ?_; rintro e w1 ⟨rfl, o1⟩; have HO1 := Lib.hid (HFR.out.trans o1); have HP1 := Lib.hid (HP0.out.later o1); clear o1; have I1 := HP1.out.node; have z0 := I1.cell 0 rfl; have z1 := I1.cell 1 rfl; have z2 := I1.cell 2 rfl; have z3 := I1.cell 3 rfl; have z4 := I1.cell 4 rfl; clear I1)
          | (go_at_call 26; refine (HFL.out _ HO1.out).mono ?_; rintro e w2 ⟨rfl, o2⟩; have HO2 := Lib.hid (HO1.out.trans o2); have HP2 := Lib.hid (HP1.out.later o2); clear o2; have I2 := HP2.out.node; have z0 := I2.cell 0 rfl; have z1 := I2.cell 1 rfl; have z2 := I2.cell 2 rfl; have z3 := I2.cell 3 rfl; have z4 := I2.cell 4 rfl; clear I2)
          | (go_at_call 27; refine (HPR.out _).mono ?_; rintro e w3 ⟨rfl, o3⟩; have HO3 := Lib.hid (HO2.out.trans o3); have HP3 := Lib.hid (HP2.out.later o3); clear o3; have I3 := HP3.out.node; have z0 := I3.cell 0 rfl; have z1 := I3.cell 1 rfl; have z2 := I3.cell 2 rfl; have z3 := I3.cell 3 rfl; have z4 := I3.cell 4 rfl; clear I3)
          | (go_at_call 28; refine (HP3.out.ensure pp (HG.out _ HO3.out) (by have := HFW.out.2.2; omega) HFW.out.1.srt (few_short HFW.out) HRP2.out.1 HRP2.out.2).mono ?_; rintro e w4 ⟨rfl, k4⟩; rw [← HHF2.out] at k4; have HP4 := Lib.hid k4; clear k4; have I4 := HP4.out.node; have z0 := I4.cell 0 rfl; have z1 := I4.cell 1 rfl; have z2 := I4.cell 2 rfl; have z3 := I4.cell 3 rfl; have z4 := I4.cell 4 rfl; clear I4)
          | (go_at_call 10; refine (HP4.out.clear pa (by have := HH.out.2.2.1; omega) HH.out.1 HH.out.2.1 HH.out.2.2.2 (by omega)).mono ?_; rintro e w5 ⟨⟨k5, rfl⟩, k6⟩; have HP5 := Lib.hid k6; clear k6; have I5 := HP5.out.node; have z0 := I5.cell 0 rfl; have z1 := I5.cell 1 rfl; have z2 := I5.cell 2 rfl; have z3 := I5.cell 3 rfl; have z4 := I5.cell 4 rfl; clear I5)
          | (go_at_call 29; refine (HP5.out.set (by have := dropT_len hs pa false; have := HH.out.2.2.1; omega) (drop_srt _ _ HH.out.1) (fun x hx => HH.out.2.1 x (dropT_mem hx)) (show pa.length ≤ 2000 by omega)).mono ?_; rintro e w6 ⟨rfl, k7⟩; rw [← HPI2.out] at k7; have HE := Lib.hid (k7.done HFR.out); clear k7))
        go_ret
        exact ⟨rfl, HE.out⟩
    | false =>
      rw [hq] at HPR HHF
      obtain rfl : hs = ps := HHF.out.trans (if_neg (by decide))
      clear hq HRP HHF
      cases di with
      | true =>
        have HPI2 : Hid (fin = setT hs ⟨pa, true, da, mo, ti⟩) := Lib.hid (HPI.out.trans (by rw [if_pos (by rfl)]))
        clear HPI
        go_enter Tryz.func7, Tryz.ntmps7
        go_wp2_with (first
          | (go_at_call 25; refine (HN.out _ HFR.out).mono ?_; rintro e w1 ⟨rfl, o1⟩; have HO1 := Lib.hid (HFR.out.trans o1); have HP1 := Lib.hid (HP0.out.later o1); clear o1; have I1 := HP1.out.node; have z0 := I1.cell 0 rfl; have z1 := I1.cell 1 rfl; have z2 := I1.cell 2 rfl; have z3 := I1.cell 3 rfl; have z4 := I1.cell 4 rfl; clear I1)
          | (go_at_call 26; refine (HFL.out _ HO1.out).mono ?_; rintro e w2 ⟨rfl, o2⟩; have HO2 := Lib.hid (HO1.out.trans o2); have HP2 := Lib.hid (HP1.out.later o2); clear o2; have I2 := HP2.out.node; have z0 := I2.cell 0 rfl; have z1 := I2.cell 1 rfl; have z2 := I2.cell 2 rfl; have z3 := I2.cell 3 rfl; have z4 := I2.cell 4 rfl; clear I2)
          | (go_at_call 27; refine (HPR.out _).mono ?_; rintro e w3 ⟨rfl, o3⟩; have HO3 := Lib.hid (HO2.out.trans o3); have HP3 := Lib.hid (HP2.out.later o3); clear o3; have I3 := HP3.out.node; have z0 := I3.cell 0 rfl; have z1 := I3.cell 1 rfl; have z2 := I3.cell 2 rfl; have z3 := I3.cell 3 rfl; have z4 := I3.cell 4 rfl; clear I3)
          | (go_at_call 29; refine (HP3.out.set (by have := HH.out.2.2.1; omega) HH.out.1 HH.out.2.1 (show pa.length ≤ 2000 by omega)).mono ?_; rintro e w6 ⟨rfl, k7⟩; rw [← HPI2.out] at k7; have HE := Lib.hid (k7.done HFR.out); clear k7))
        go_ret
        exact ⟨rfl, HE.out⟩
      | false =>
        have HPI2 : Hid (fin = setT (dropT hs pa false) ⟨pa, false, da, mo, ti⟩) := Lib.hid (HPI.out.trans (by rw [if_neg (by decide)]))
        clear HPI
        go_enter Tryz.func7, Tryz.ntmps7
        go_wp2_with (first
          | (go_at_call 25; refine (HN.out _ HFR.out).mono ?_; rintro e w1 ⟨rfl, o1⟩; have HO1 := Lib.hid (HFR.out.trans o1); have HP1 := Lib.hid (HP0.out.later o1); clear o1; have I1 := HP1.out.node; have z0 := I1.cell 0 rfl; have z1 := I1.cell 1 rfl; have z2 := I1.cell 2 rfl; have z3 := I1.cell 3 rfl; have z4 := I1.cell 4 rfl; clear I1)
          | (go_at_call 26; refine (HFL.out _ HO1.out).mono ?_; rintro e w2 ⟨rfl, o2⟩; have HO2 := Lib.hid (HO1.out.trans o2); have HP2 := Lib.hid (HP1.out.later o2); clear o2; have I2 := HP2.out.node; have z0 := I2.cell 0 rfl; have z1 := I2.cell 1 rfl; have z2 := I2.cell 2 rfl; have z3 := I2.cell 3 rfl; have z4 := I2.cell 4 rfl; clear I2)
          | (go_at_call 27; refine (HPR.out _).mono ?_; rintro e w3 ⟨rfl, o3⟩; have HO3 := Lib.hid (HO2.out.trans o3); have HP3 := Lib.hid (HP2.out.later o3); clear o3; have I3 := HP3.out.node; have z0 := I3.cell 0 rfl; have z1 := I3.cell 1 rfl; have z2 := I3.cell 2 rfl; have z3 := I3.cell 3 rfl; have z4 := I3.cell 4 rfl; clear I3)
          | (go_at_call 10; refine (HP3.out.clear pa (by have := HH.out.2.2.1; omega) HH.out.1 HH.out.2.1 HH.out.2.2.2 (by omega)).mono ?_; rintro e w5 ⟨⟨k5, rfl⟩, k6⟩; have HP5 := Lib.hid k6; clear k6; have I5 := HP5.out.node; have z0 := I5.cell 0 rfl; have z1 := I5.cell 1 rfl; have z2 := I5.cell 2 rfl; have z3 := I5.cell 3 rfl; have z4 := I5.cell 4 rfl; clear I5)
          | (go_at_call 29; refine (HP5.out.set (by have := dropT_len hs pa false; have := HH.out.2.2.1; omega) (drop_srt _ _ HH.out.1) (fun x hx => HH.out.2.1 x (dropT_mem hx)) (show pa.length ≤ 2000 by omega)).mono ?_; rintro e w6 ⟨rfl, k7⟩; rw [← HPI2.out] at k7; have HE := Lib.hid (k7.done HFR.out); clear k7))
        go_ret
        exact ⟨rfl, HE.out⟩
  · rw [if_neg hz]
    have hz2 : (nodeZ n == 0) = false := by rw [beq_eq_false_iff_ne]; exact hz
    generalize nodeZ n = Z at *
    go_enter Tryz.func7, Tryz.ntmps7
    go_wp2_with (go_at_call 25; refine (HN.out _ HFR.out).mono ?_; rintro e w1 ⟨rfl, o1⟩; have HO1 := Lib.hid (HFR.out.trans o1); clear o1)
    go_ret
    exact ⟨rfl, EdT.start HT.out HO1.out⟩
end Go.Proofs.YtaeaomlhbdbbfaaGreatDoor

/- Layer 15, the landed program: Ensure, Remove, Clear; a new tree; its nodes, how many, one of them. -/
namespace Go.Proofs.YtaeaomlhbdbbfaaGreatDoor
open Go.RowKit

theorem done_ensure (ps : List Nd) (n : Nd) : doneT ps ⟨2, n⟩ = if rightF n.path = true then (ensureT ps n.path, 0) else (ps, 5) := by
  unfold doneT kindD mayPath
  cases rightF n.path <;> simp
theorem done_remove {ps : List Nd} (hf : Form ps) (n : Nd) : doneT ps ⟨3, n⟩ = if thereT ps n.path = true then (dropT ps n.path true, ((hiT ps n.path - loT ps n.path + 1 : Nat) : Int)) else (ps, 0) := by
  have key : thereT ps n.path = true → rightF n.path = true := fun ht => by
    obtain ⟨h1, h2⟩ := (there_iff ps n.path).1 ht
    have := (hf.may _ (getD_mem nd0 ps _ h1)).1
    rw [mayPath, h2] at this
    exact this
  have e : doneT ps ⟨3, n⟩ = if rightF n.path = true then (dropT ps n.path true, (ps.length : Int) - ((dropT ps n.path true).length : Int)) else (ps, 0) := by
    unfold doneT kindD mayPath
    cases rightF n.path <;> simp
  rw [e]
  by_cases ht : thereT ps n.path = true
  · rw [if_pos ht, if_pos (key ht)]
    have h1 := drop_self hf.srt (right_ne (key ht)) ht
    have h2 : loT ps n.path = posT ps n.path + 1 := if_pos ht
    have h3 := lo_hi ps n.path
    have h4 := hi_le ps n.path
    have h5 : (dropT ps n.path true).length = posT ps n.path + (ps.length - hiT ps n.path) := by
      rw [h1, List.length_append, List.length_take, List.length_drop]
      omega
    rw [h5]
    congr 1
    omega
  · rw [if_neg ht]
    by_cases hr : rightF n.path = true
    · rw [if_pos hr, drop_none hf (right_ne hr) (Bool.eq_false_iff.2 ht)]
      congr 1
      omega
    · rw [if_neg hr]
theorem done_clear {ps : List Nd} (hf : Form ps) (n : Nd) : doneT ps ⟨4, n⟩ = (dropT ps n.path false, ((hiT ps n.path - loT ps n.path : Nat) : Int)) := by
  have h1 := drop_range hf.srt (form_ne hf) n.path
  have h3 := lo_hi ps n.path
  have h4 := hi_le ps n.path
  have h5 : (dropT ps n.path false).length = loT ps n.path + (ps.length - hiT ps n.path) := by
    rw [h1, List.length_append, List.length_take, List.length_drop]
    omega
  by_cases hc : rightF n.path = false ∧ n.path ≠ []
  · have e : doneT ps ⟨4, n⟩ = (ps, 0) := by
      unfold doneT kindD mayPath
      simp [hc.1, hc.2]
    have h6 : dropT ps n.path false = ps := by
      refine List.filter_eq_self.2 fun x hx => ?_
      have hr := (hf.may x hx).1
      rw [goes_under (right_ne hr), Bool.not_eq_true']
      refine Bool.eq_false_iff.2 fun hu => ?_
      have := right_under _ (Nat.lt_succ_self _) hr hc.2 hu
      rw [hc.1] at this
      cases this
    rw [e, h6]
    rw [h6] at h5
    congr 1
    omega
  · have e : doneT ps ⟨4, n⟩ = (dropT ps n.path false, (ps.length : Int) - ((dropT ps n.path false).length : Int)) := by
      unfold doneT kindD mayPath
      have hc2 : ¬ (rightF n.path = false ∧ (False ∨ n.path ≠ [])) := fun h => hc ⟨h.1, h.2.elim False.elim id⟩
      simp only [show (4 % 5 < 3) = False from by simp, show (4 % 5 < 2) = False from by simp, show (4 % 5 = 2) = False from by simp, show (4 % 5 = 3) = False from by simp, false_and, if_false, decide_false]
      rw [if_neg hc2]
    rw [e, h5]
    congr 1
    omega
set_option maxRecDepth 20000 in
set_option maxHeartbeats 4000000 in
theorem pensure15 {v : Value} {ps : List Nd} {F : Nat → Prop} (n : Nd) (w : World) (hg : Gr w) (hT : Tr15 v ps F w) (hf : Few ps) (hn : NdSm n) : Calls Tryz.prog 8 #[v, .string (tx n.path)] w (DoT Tr15 v F w (doneT ps ⟨2, n⟩)) := by
  obtain ⟨g, A, c, rfl, ht, hF⟩ := hT
  refine Calls.mono (R := fun e w' => e = .returned (.int .i64 (doneT ps ⟨2, n⟩).2) ∧ EdT w g A (doneT ps ⟨2, n⟩).1 w') ?_ fun e w' k => do_of hF k.2 k.1
  rw [done_ensure]
  clear hF
  have hp60 := hn.2.1
  have HR := Lib.hid (pcheck n.path w hg (by omega))
  have HT := Lib.hid ht
  by_cases hr : rightF n.path = true
  · rw [if_pos hr] at HR ⊢
    rw [ens_fold _ (Nat.lt_succ_self _) hf.1 hr]
    have HFL : Hid (∀ w1, Only (fun _ => False) w w1 → Calls Tryz.prog 26 #[.pointer (some ⟨g, 0, none⟩), .string (tx n.path)] w1 fun e w' => e = .returned (.bool false) ∧ Only (fun _ => False) w1 w') := Lib.hid fun w1 o => pfills g A c ps n.path w1 (hg.keep o) (ht.new o) hf.2.2 hf.1.srt (few_short hf) hr hp60
    have HE : Hid (∀ w1, Only (fun _ => False) w w1 → Calls Tryz.prog 28 #[.pointer (some ⟨g, 0, none⟩), .string (tx n.path)] w1 fun e w' => e = .returned (.tuple #[]) ∧ EdT w1 g A ((begs n.path).foldl ensStep ps) w') := Lib.hid fun w1 o => pensure0 g A c ps n.path w1 (hg.keep o) (ht.new o) (by have := hf.2.2; omega) hf.1.srt (few_short hf) hr (by omega)
    clear hg ht hf hn hr
    generalize (begs n.path).foldl ensStep ps = qs at *
    go_enter Tryz.func8, Tryz.ntmps8
    go_wp2_with (first
      | (go_at_call 30; refine HR.out.mono ?_; rintro e w1 ⟨rfl, o1⟩; have HO1 := Lib.hid o1; clear o1)
      | (go_at_call 26; refine (HFL.out _ HO1.out).mono ?_; rintro e w2 ⟨rfl, o2⟩; have HO2 := Lib.hid (HO1.out.trans o2); clear o2)
      | (go_at_call 28; refine (HE.out _ HO2.out).mono ?_; rintro e w3 ⟨rfl, k3⟩; have HF := Lib.hid (EdT.from HO2.out k3); clear k3))
    go_ret
    exact ⟨rfl, HF.out⟩
  · rw [if_neg hr] at HR ⊢
    clear hg ht hf hn hr
    go_enter Tryz.func8, Tryz.ntmps8
    go_wp2_with (go_at_call 30; refine HR.out.mono ?_; rintro e w1 ⟨rfl, o1⟩; have HO1 := Lib.hid o1; clear o1)
    go_ret
    exact ⟨rfl, EdT.start HT.out HO1.out⟩
theorem premove15 {v : Value} {ps : List Nd} {F : Nat → Prop} (n : Nd) (w : World) (hT : Tr15 v ps F w) (hf : Few ps) (hn : NdSm n) : Calls Tryz.prog 9 #[v, .string (tx n.path)] w (DoT Tr15 v F w (doneT ps ⟨3, n⟩)) := by
  obtain ⟨g, A, c, rfl, ht, hF⟩ := hT
  rw [done_remove hf.1]
  have h2 := hf.2.2
  have h6 := hn.2.1
  by_cases hth : thereT ps n.path = true
  · rw [if_pos hth]
    exact (premove0 g A c ps n.path w ht (by omega) hf.1.srt (few_short hf) (form_ne hf.1) (by omega) hth).mono fun e w' k => do_of hF k.2 k.1
  · rw [if_neg hth]
    exact (premove1 g A c ps n.path w ht (by omega) hf.1.srt (few_short hf) (by omega) (Bool.eq_false_iff.2 hth)).mono fun e w' k => do_of hF k.2 k.1
theorem pclear15 {v : Value} {ps : List Nd} {F : Nat → Prop} (n : Nd) (w : World) (hT : Tr15 v ps F w) (hf : Few ps) (hn : NdSm n) : Calls Tryz.prog 10 #[v, .string (tx n.path)] w (DoT Tr15 v F w (doneT ps ⟨4, n⟩)) := by
  obtain ⟨g, A, c, rfl, ht, hF⟩ := hT
  rw [done_clear hf.1]
  have h2 := hf.2.2
  have h6 := hn.2.1
  exact (pclear0 g A c ps n.path w ht (by omega) hf.1.srt (few_short hf) (form_ne hf.1) (by omega)).mono fun e w' k => do_of hF k.2 k.1
end Go.Proofs.YtaeaomlhbdbbfaaGreatDoor

/- Layer 15, the landed program: a new tree; its nodes, how many, one of them, how many bytes. -/
namespace Go.Proofs.YtaeaomlhbdbbfaaGreatDoor
open Go.RowKit

set_option maxRecDepth 20000 in
theorem pnew15 (w : World) : Calls Tryz.prog 6 #[] w fun e w' => ∃ v F, e = .returned v ∧ Tr15 v [] F w' ∧ (∀ q, F q → w.heap.size ≤ q) ∧ Only (fun _ => False) w w' := by
  go_enter Tryz.func6, Tryz.ntmps6
  go_wp2
  go_ret
  refine ⟨_, fun q => q = w.heap.size, rfl, ⟨w.heap.size, none, 0, rfl, ⟨Is.new w 54 [.slice none 0 0], Rs.nil _ _ _, ?_⟩, fun q => ?_⟩, fun q hq => Nat.le_of_eq hq.symm, (Only.refl _ w).alloc _⟩
  · rintro ⟨_, e, _⟩
    cases e
  · constructor
    · exact .inl
    · rintro (e | ⟨_, e, _⟩)
      · exact e
      · cases e
set_option maxRecDepth 20000 in
theorem plen15 {v : Value} {ps : List Nd} {F : Nat → Prop} (w : World) (hT : Tr15 v ps F w) : Calls Tryz.prog 14 #[v] w fun e w' => e = .returned (.int .i64 ps.length) ∧ Only (fun _ => False) w w' := by
  obtain ⟨g, A, c, rfl, ht, hF⟩ := hT
  have dg := ht.hold.cell 0 rfl
  clear ht hF
  go_enter Tryz.func14, Tryz.ntmps14
  go_wp2
  go_ret
  exact ⟨rfl, Only.refl _ _⟩
set_option maxRecDepth 20000 in
theorem pall15 {v : Value} {ps : List Nd} {F : Nat → Prop} (w : World) (hT : Tr15 v ps F w) (hl : ps.length ≤ 2000) : Calls Tryz.prog 13 #[v] w (SeeP w none ps) := by
  obtain ⟨g, A, c, rfl, ht, hF⟩ := hT
  have dg := ht.hold.cell 0 rfl
  have HC := Lib.hid (pclone A ps.length c _ ps w ht.row.see rfl (by omega))
  clear ht hF
  go_enter Tryz.func13, Tryz.ntmps13
  go_wp2_with fail
  refine HC.out.mono ?_
  rintro e w2 h2
  obtain ⟨A2, c2, B2, rfl, k⟩ := NdsP.see (A0 := none) h2
  have HK := Lib.hid k
  clear HC h2 k
  go_wp2
  go_ret
  exact ⟨A2, c2, B2, rfl, HK.out⟩
theorem bytes_next (ps : List Nd) (i : Nat) (h : i < ps.length) : bytesT (ps.take (i + 1)) = bytesT (ps.take i) + (ps.getD i nd0).data.length := by
  rw [getD_take_snoc nd0 ps i h, bytes_app]
  rfl
set_option maxRecDepth 20000 in
set_option maxHeartbeats 4000000 in
theorem pbytesof (A : Option Addr) (n c B : Nat) (ps : List Nd) (w : World) (h : See w B A (nds ps)) (hn : ps.length = n) (hb : n ≤ 2000) (hin : ∀ x ∈ ps, x.data.length ≤ 60) : Calls Tryz.prog 39 #[.slice A n c] w fun e w' => e = .returned (.int .i64 (bytesT ps)) ∧ Only (fun _ => False) w w' := by
  have HS := Lib.hid h
  have HN := Lib.hid hn
  have HIN := Lib.hid hin
  clear h hn hin
  go_enter Tryz.func39, Tryz.ntmps39
  go_wp2_with fail
  go_loopg [3, 8] n (fun gk u v wx => ∃ (i k : Nat), u = .int .i64 k ∧ v = .int .i64 i ∧ i + gk = n ∧ k ≤ 60 * i ∧ Hid (bytesT (ps.take i) = k) ∧ Hid (Only (fun _ => False) w wx))
  case atStart => exact ⟨0, 0, rfl, rfl, by omega, by omega, Lib.hid rfl, Lib.hid (Only.refl _ w)⟩
  case round =>
    obtain ⟨i, k, rfl, rfl, hi, hk, HB, HW⟩ := hrel
    by_cases hlt : i < n
    · have l4 : (i : Int) < (n : Int) := by omega
      have hlt2 : i < ps.length := by rw [HN.out]; exact hlt
      obtain ⟨b, o, rfl, d0, d1, d2, d3, d4⟩ := see_nd (HS.out.new HW.out) hlt2
      have hdl := HIN.out _ (getD_mem nd0 ps i hlt2)
      have HST : Hid (bytesT (ps.take (i + 1)) = k + (ps.getD i nd0).data.length) := Lib.hid (by rw [bytes_next ps i hlt2, HB.out])
      clear hlt2
      generalize ps.getD i nd0 = q at d0 d1 d2 d3 d4 hdl HST
      have tq := tx_size q.data
      generalize q.data.length = ql at tq hdl HST
      go_wp2_with ((with_reducible show wpList _ _ _ (Oper.mk _ (Op.store _ _ _) _ _ _ _ :: _) _ _)
                   refine wpList_store_is rfl 29 (.tmp 5) (.tmp 11) rfl wr.heap.size (ndVals q) rfl rfl 29 [.string ⟨#[]⟩, .bool false, .string ⟨#[]⟩, .int .i64 0, .int .i64 0] (Is.new wr _ _) infoNd5 rfl (by simp [ndVals, Value.oneCell']) ?_
                   intro w5 i5 o5
                   have e2 := i5.cell 2 rfl
                   have H5 : Hid (Only (fun _ => False) w w5) := Lib.hid ((HW.out.alloc _).andThen o5 (by intro j hj; right; rw [hj]; exact HW.out.size))
                   clear i5 o5)
      go_roundg (gk - 1)
      case measure => omega
      case rel => exact ⟨i + 1, k + ql, by go_num, by go_num, by omega, by omega, HST, H5⟩
    · obtain rfl : i = n := by omega
      have HF : Hid (bytesT ps = k) := Lib.hid (by rw [← HB.out, List.take_of_length_le (by rw [HN.out]; exact Nat.le_refl _)])
      go_wp2
      go_ret
      rw [HF.out]
      exact ⟨rfl, HW.out⟩
set_option maxRecDepth 20000 in
theorem pbytes15 {v : Value} {ps : List Nd} {F : Nat → Prop} (w : World) (hT : Tr15 v ps F w) (hf : Few ps) : Calls Tryz.prog 15 #[v] w fun e w' => e = .returned (.int .i64 (bytesT ps)) ∧ Only (fun _ => False) w w' := by
  obtain ⟨g, A, c, rfl, ht, hF⟩ := hT
  have dg := ht.hold.cell 0 rfl
  have HC := Lib.hid (pbytesof A ps.length c _ ps w ht.row.see rfl hf.2.2 fun x hx => (hf.2.1 x hx).2.2)
  clear ht hF hf
  generalize bytesT ps = bt at *
  go_enter Tryz.func15, Tryz.ntmps15
  go_wp2_with (go_at_call 39; refine HC.out.mono ?_; rintro e w2 ⟨rfl, o2⟩; have HO := Lib.hid o2; clear o2)
  go_ret
  exact ⟨rfl, HO.out⟩
set_option maxRecDepth 20000 in
theorem nput15 (n : Nd) (w : World) : Calls Tryz.prog 7 #[.pointer none, ndV n] w fun e w' => e = .returned (.int .i64 1) ∧ Only (fun _ => False) w w' := by
  go_enter Tryz.func7, Tryz.ntmps7
  go_wp2
  go_ret
  exact ⟨rfl, (Only.refl _ w).alloc _⟩
set_option maxRecDepth 20000 in
theorem nensure15 (p : List UInt8) (w : World) : Calls Tryz.prog 8 #[.pointer none, .string (tx p)] w fun e w' => e = .returned (.int .i64 1) ∧ Only (fun _ => False) w w' := by
  go_enter Tryz.func8, Tryz.ntmps8
  go_wp2
  go_ret
  exact ⟨rfl, Only.refl _ _⟩
set_option maxRecDepth 20000 in
theorem nremove15 (p : List UInt8) (w : World) : Calls Tryz.prog 9 #[.pointer none, .string (tx p)] w fun e w' => e = .returned (.int .i64 0) ∧ Only (fun _ => False) w w' := by
  go_enter Tryz.func9, Tryz.ntmps9
  go_wp2
  go_ret
  exact ⟨rfl, Only.refl _ _⟩
set_option maxRecDepth 20000 in
theorem nclear15 (p : List UInt8) (w : World) : Calls Tryz.prog 10 #[.pointer none, .string (tx p)] w fun e w' => e = .returned (.int .i64 0) ∧ Only (fun _ => False) w w' := by
  go_enter Tryz.func10, Tryz.ntmps10
  go_wp2
  go_ret
  exact ⟨rfl, Only.refl _ _⟩
set_option maxRecDepth 20000 in
theorem nlist15 (p : List UInt8) (w : World) : Calls Tryz.prog 19 #[.pointer none, .string (tx p)] w fun e w' => (∃ A c, e = .returned (.slice A 0 c)) ∧ Only (fun _ => False) w w' := by
  go_enter Tryz.func19, Tryz.ntmps19
  go_wp2
  go_ret
  exact ⟨⟨none, 0, rfl⟩, Only.refl _ _⟩
set_option maxRecDepth 20000 in
theorem nall15 (w : World) : Calls Tryz.prog 13 #[.pointer none] w fun e w' => (∃ A c, e = .returned (.slice A 0 c)) ∧ Only (fun _ => False) w w' := by
  go_enter Tryz.func13, Tryz.ntmps13
  go_wp2
  go_ret
  exact ⟨⟨none, 0, rfl⟩, Only.refl _ _⟩
set_option maxRecDepth 20000 in
theorem nlen15 (w : World) : Calls Tryz.prog 14 #[.pointer none] w fun e w' => e = .returned (.int .i64 0) ∧ Only (fun _ => False) w w' := by
  go_enter Tryz.func14, Tryz.ntmps14
  go_wp2
  go_ret
  exact ⟨rfl, Only.refl _ _⟩
set_option maxRecDepth 20000 in
theorem nbytes15 (w : World) : Calls Tryz.prog 15 #[.pointer none] w fun e w' => e = .returned (.int .i64 0) ∧ Only (fun _ => False) w w' := by
  go_enter Tryz.func15, Tryz.ntmps15
  go_wp2
  go_ret
  exact ⟨rfl, Only.refl _ _⟩
set_option maxRecDepth 20000 in
theorem ncoll15 (w : World) : Calls Tryz.prog 22 #[.pointer none] w fun e w' => e = .returned (.tuple #[.string ⟨#[]⟩, .bool false]) ∧ Only (fun _ => False) w w' := by
  go_enter Tryz.func22, Tryz.ntmps22
  go_wp2
  go_ret2
  exact ⟨rfl, Only.refl _ _⟩
end Go.Proofs.YtaeaomlhbdbbfaaGreatDoor

/- Layer 15, the landed program: the node at a path; the nodes right under one. -/
namespace Go.Proofs.YtaeaomlhbdbbfaaGreatDoor
open Go.RowKit

set_option maxRecDepth 20000 in
set_option maxHeartbeats 4000000 in
theorem nget15 (p : List UInt8) (w : World) : Calls Tryz.prog 17 #[.pointer none, .string (tx p)] w fun e w' => e = .returned (.tuple #[ndV nd0, .bool false]) ∧ Only (fun _ => False) w w' := by
  obtain ⟨X, hX⟩ : ∃ X, w.heap.size = X := ⟨_, rfl⟩
  obtain ⟨w0, hw0⟩ : ∃ w0, w.alloc (.cells #[.string ⟨#[]⟩, .bool false, .string ⟨#[]⟩, .int .i64 0, .int .i64 0] 29) = w0 := ⟨_, rfl⟩
  have HXL : Hid (w.heap.size ≤ X) := Lib.hid (by omega)
  have HI : Hid (Is w0 X 29 [.string ⟨#[]⟩, .bool false, .string ⟨#[]⟩, .int .i64 0, .int .i64 0]) := Lib.hid (by
    rw [← hw0, ← hX]
    exact Is.new w _ _)
  have HO0 : Hid (Only (fun _ => False) w w0) := Lib.hid (by
    rw [← hw0]
    exact (Only.refl _ w).alloc _)
  have x0 := HI.out.cell 0 rfl
  have x1 := HI.out.cell 1 rfl
  have x2 := HI.out.cell 2 rfl
  have x3 := HI.out.cell 3 rfl
  have x4 := HI.out.cell 4 rfl
  have z0 := HI.out.frozen 0
  have z1 := HI.out.frozen 1
  have z2 := HI.out.frozen 2
  have z3 := HI.out.frozen 3
  have z4 := HI.out.frozen 4
  go_enter Tryz.func17, Tryz.ntmps17
  go_wp2
  refine bodyPost_ret (res_pair rfl _ _ X 29 _ _ rfl (((((HI.out.set 0 _).set 1 _).set 2 _).set 3 _).set 4 _) Tryz.underlying29 rfl (by kernel_rfl)) rfl ?_
  exact ⟨rfl, ((((HO0.out.set (.inr HXL.out) _).set (.inr HXL.out) _).set (.inr HXL.out) _).set (.inr HXL.out) _).set (.inr HXL.out) _⟩
set_option maxRecDepth 20000 in
set_option maxHeartbeats 8000000 in
theorem pget15 {v : Value} {ps : List Nd} {F : Nat → Prop} (p : List UInt8) (w : World) (hT : Tr15 v ps F w) (hf : Few ps) (hp : p.length ≤ 60) : Calls Tryz.prog 17 #[v, .string (tx p)] w fun e w' => e = .returned (.tuple #[ndV (gotT ps p).1, .bool (gotT ps p).2]) ∧ Only (fun _ => False) w w' := by
  obtain ⟨g, A, c, rfl, ht, hF⟩ := hT
  obtain ⟨m, hm⟩ : ∃ m, ps.length = m := ⟨_, rfl⟩
  have HF : Hid (∀ w1, Only (fun _ => False) w w1 → Calls Tryz.prog 31 #[.slice A m c, .string (tx p)] w1 fun e w' => e = .returned (.tuple #[.int .i64 (posT ps p), .bool (thereT ps p)]) ∧ Only (fun _ => False) w1 w') := Lib.hid fun w1 o => pfind A m c _ ps p w1 (ht.row.see.new o) hm (by have := hf.2.2; omega) hf.1.srt (fun x hx => by have := few_short hf x hx; omega) (by omega)
  have HG : Hid (gotT ps p = if thereT ps p = true then (ps.getD (posT ps p) nd0, true) else (nd0, false)) := Lib.hid (got_pos hf.1.srt p)
  have dg : w.cell? ⟨g, 0, none⟩ = some (.slice A m c) := by rw [← hm]; exact ht.hold.cell 0 rfl
  have HS := Lib.hid ht.row.see
  have HL : Hid (thereT ps p = true → posT ps p < m) := Lib.hid fun h => by rw [← hm]; exact ((there_iff ps p).1 h).1
  have hb := hf.2.2
  rw [hm] at hb
  have HM := Lib.hid hm
  clear ht hF hf hp hm
  generalize gotT ps p = G at *
  generalize posT ps p = po at *
  obtain ⟨X, hX⟩ : ∃ X, w.heap.size = X := ⟨_, rfl⟩
  obtain ⟨w0, hw0⟩ : ∃ w0, w.alloc (.cells #[.string ⟨#[]⟩, .bool false, .string ⟨#[]⟩, .int .i64 0, .int .i64 0] 29) = w0 := ⟨_, rfl⟩
  have HXL : Hid (w.heap.size ≤ X) := Lib.hid (by omega)
  have HI : Hid (Is w0 X 29 [.string ⟨#[]⟩, .bool false, .string ⟨#[]⟩, .int .i64 0, .int .i64 0]) := Lib.hid (by
    rw [← hw0, ← hX]
    exact Is.new w _ _)
  have HO0 : Hid (Only (fun _ => False) w w0) := Lib.hid (by
    rw [← hw0]
    exact (Only.refl _ w).alloc _)
  have e0 := only_cell dg HO0.out
  cases hth : thereT ps p with
  | false =>
    rw [hth] at HF HG
    have HG2 : Hid (G = (nd0, false)) := Lib.hid (HG.out.trans (if_neg (by decide)))
    clear HG HL hth
    go_enter Tryz.func17, Tryz.ntmps17
    go_wp2_with fail
    refine (HF.out _ HO0.out).mono ?_
    rintro e w2 ⟨rfl, o2⟩
    have HI2 := Lib.hid (HI.out.only o2 (fun f => f))
    have HO2 := Lib.hid (HO0.out.trans o2)
    clear HF hw0 hX HI HO0 o2
    have x0 := HI2.out.cell 0 rfl
    have x1 := HI2.out.cell 1 rfl
    have x2 := HI2.out.cell 2 rfl
    have x3 := HI2.out.cell 3 rfl
    have x4 := HI2.out.cell 4 rfl
    have z0 := HI2.out.frozen 0
    have z1 := HI2.out.frozen 1
    have z2 := HI2.out.frozen 2
    have z3 := HI2.out.frozen 3
    have z4 := HI2.out.frozen 4
    go_wp2
    refine bodyPost_ret (res_pair rfl _ _ X 29 _ _ rfl (((((HI2.out.set 0 _).set 1 _).set 2 _).set 3 _).set 4 _) Tryz.underlying29 rfl (by kernel_rfl)) rfl ?_
    refine ⟨?_, ((((HO2.out.set (.inr HXL.out) _).set (.inr HXL.out) _).set (.inr HXL.out) _).set (.inr HXL.out) _).set (.inr HXL.out) _⟩
    rw [HG2.out]
    rfl
  | true =>
    rw [hth] at HF HG
    have HG2 : Hid (G = (ps.getD po nd0, true)) := Lib.hid (HG.out.trans (if_pos rfl))
    have hpo := HL.out hth
    have hpo2 : (po : Int) < (m : Int) := by omega
    clear HG HL hth
    obtain ⟨b, o, rfl, d0, d1, d2, d3, d4⟩ := see_nd HS.out (i := po) (by rw [HM.out]; exact hpo)
    generalize ps.getD po nd0 = q at d0 d1 d2 d3 d4 HG2
    go_enter Tryz.func17, Tryz.ntmps17
    go_wp2_with fail
    refine (HF.out _ HO0.out).mono ?_
    rintro e w2 ⟨rfl, o2⟩
    have HI2 := Lib.hid (HI.out.only o2 (fun f => f))
    have HO2 := Lib.hid (HO0.out.trans o2)
    have e2 := only_cell dg HO2.out
    have k0 := only_cell d0 HO2.out
    have k1 := only_cell d1 HO2.out
    have k2 := only_cell d2 HO2.out
    have k3 := only_cell d3 HO2.out
    have k4 := only_cell d4 HO2.out
    clear HF hw0 hX HI HO0 o2 d0 d1 d2 d3 d4
    have x0 := HI2.out.cell 0 rfl
    have x1 := HI2.out.cell 1 rfl
    have x2 := HI2.out.cell 2 rfl
    have x3 := HI2.out.cell 3 rfl
    have x4 := HI2.out.cell 4 rfl
    have z0 := HI2.out.frozen 0
    have z1 := HI2.out.frozen 1
    have z2 := HI2.out.frozen 2
    have z3 := HI2.out.frozen 3
    have z4 := HI2.out.frozen 4
    go_wp2
    refine bodyPost_ret (res_pair rfl _ _ X 29 _ _ rfl (((((HI2.out.set 0 _).set 1 _).set 2 _).set 3 _).set 4 _) Tryz.underlying29 rfl (by kernel_rfl)) rfl ?_
    refine ⟨?_, ((((HO2.out.set (.inr HXL.out) _).set (.inr HXL.out) _).set (.inr HXL.out) _).set (.inr HXL.out) _).set (.inr HXL.out) _⟩
    rw [HG2.out]
    rfl
theorem piece_at (ps : List Nd) {lo hi i : Nat} (hi2 : hi ≤ ps.length) (h : lo + i < hi) : i < ((ps.take hi).drop lo).length ∧ ((ps.take hi).drop lo).getD i nd0 = ps.getD (lo + i) nd0 := by
  constructor
  · rw [List.length_drop, List.length_take]
    omega
  · rw [ndD_drop, List.getD_eq_getElem?_getD, List.getD_eq_getElem?_getD, List.getElem?_take, if_pos h]
set_option maxRecDepth 20000 in
set_option maxHeartbeats 16000000 in
theorem plist15 {v : Value} {ps : List Nd} {F : Nat → Prop} (p : List UInt8) (w : World) (hT : Tr15 v ps F w) (hf : Few ps) (hp : p.length ≤ 60) : Calls Tryz.prog 19 #[v, .string (tx p)] w (SeeP w none (listT ps p)) := by
  obtain ⟨g, A, c, rfl, ht, hF⟩ := hT
  have hml : maxLen = 9223372036854775807 := rfl
  have HR := Lib.hid (prange g A c ps p w ht (by have := hf.2.2; omega) hf.1.srt (few_short hf) (by omega))
  have HLP : Hid (listT ps p = listT ((ps.take (hiT ps p)).drop (loT ps p)) p) := Lib.hid (list_piece hf.1.srt (fun n hn => (hf.1.may n hn).1) p)
  have h1 := lo_hi ps p
  have h2 := hi_le ps p
  have hcap := ht.row.cap
  have HSH := Lib.hid (few_short hf)
  have hb := hf.2.2
  obtain ⟨m, hm⟩ : ∃ m, ps.length = m := ⟨_, rfl⟩
  have HM := Lib.hid hm
  have dg : w.cell? ⟨g, 0, none⟩ = some (.slice A m c) := by rw [← hm]; exact ht.hold.cell 0 rfl
  have HROW := Lib.hid ht.row
  rw [hm] at h2 hb hcap
  have hnil : A = none → m = 0 ∧ c = 0 := fun e => by
    obtain ⟨_, ⟨_, q1, q2, _⟩ | ⟨_, _, q1, _⟩⟩ := ht.row
    · exact ⟨by rw [← hm]; exact q1, q2⟩
    · rw [e] at q1
      cases q1
  clear hf hp ht hF hm
  generalize loT ps p = lo at *
  generalize hiT ps p = hi at *
  obtain ⟨k, hk⟩ : ∃ k, hi - lo = k := ⟨_, rfl⟩
  have HK := Lib.hid hk
  have hlc : lo ≤ c := by omega
  have hhc : hi ≤ c := by omega
  have h1i : (lo : Int) ≤ (hi : Int) := by omega
  by_cases hk0 : k = 0
  · have HE : Hid (listT ps p = []) := Lib.hid (by
      rw [HLP.out, List.drop_eq_nil_of_le (by rw [List.length_take]; omega)]
      rfl)
    obtain rfl : hi = lo := by omega
    clear HLP HK
    cases A with
    | none =>
      obtain ⟨rfl, rfl⟩ := hnil rfl
      obtain rfl : hi = 0 := by omega
      go_enter Tryz.func19, Tryz.ntmps19
      go_wp2_with (go_at_call 33; refine HR.out.mono ?_; rintro e w1 ⟨rfl, o1⟩; have HO := Lib.hid o1; have dg1 := only_cell dg o1; clear o1)
      go_loopg [5, 28] 0 (fun gk u v wx => u = .slice none 0 0 ∧ v = .int .i64 0 ∧ wx = w1)
      case atStart => exact ⟨rfl, rfl, rfl⟩
      case round =>
        obtain ⟨rfl, rfl, rfl⟩ := hrel
        go_wp2
        go_ret
        rw [HE.out]
        exact ⟨none, 0, 0, rfl, (fun i v hv => by cases hv), Nat.le_refl _, HO.out, fun j hj => by obtain ⟨_, e, _⟩ := hj; cases e⟩
    | some a =>
      clear hnil
      by_cases hc : c = hi
      · subst hc
        go_enter Tryz.func19, Tryz.ntmps19
        go_wp2_with (go_at_call 33; refine HR.out.mono ?_; rintro e w1 ⟨rfl, o1⟩; have HO := Lib.hid o1; have dg1 := only_cell dg o1; clear o1)
        go_loopg [5, 28] 0 (fun gk u v wx => u = .slice none 0 0 ∧ v = .int .i64 0 ∧ wx = w1)
        case atStart => exact ⟨rfl, rfl, rfl⟩
        case round =>
          obtain ⟨rfl, rfl, rfl⟩ := hrel
          go_wp2
          go_ret
          rw [HE.out]
          exact ⟨none, 0, 0, rfl, (fun i v hv => by cases hv), Nat.le_refl _, HO.out, fun j hj => by obtain ⟨_, e, _⟩ := hj; cases e⟩
      · have hc2 : ¬ (c = hi) := hc
        go_enter Tryz.func19, Tryz.ntmps19
        go_wp2_with (go_at_call 33; refine HR.out.mono ?_; rintro e w1 ⟨rfl, o1⟩; have HO := Lib.hid o1; have dg1 := only_cell dg o1; clear o1)
        go_loopg [5, 28] 0 (fun gk u v wx => u = .slice none 0 0 ∧ v = .int .i64 0 ∧ wx = w1)
        case atStart => exact ⟨rfl, rfl, rfl⟩
        case round =>
          obtain ⟨rfl, rfl, rfl⟩ := hrel
          go_wp2
          go_ret
          rw [HE.out]
          exact ⟨none, 0, 0, rfl, (fun i v hv => by cases hv), Nat.le_refl _, HO.out, fun j hj => by obtain ⟨_, e, _⟩ := hj; cases e⟩
  · obtain ⟨G, rfl, _⟩ := HROW.out.base (by omega)
    have hc2 : ¬ (c = lo) := by omega
    have tp := tx_toList p
    clear hnil
    have HPL : Hid (∀ i, i < k → i < ((ps.take hi).drop lo).length ∧ ((ps.take hi).drop lo).getD i nd0 = ps.getD (lo + i) nd0) := Lib.hid fun i h => piece_at ps (by rw [HM.out]; exact h2) (by have := HK.out; omega)
    have HPK : Hid (((ps.take hi).drop lo).length = k) := Lib.hid (by rw [List.length_drop, List.length_take, HM.out]; omega)
    generalize (ps.take hi).drop lo = pc at *
    go_enter Tryz.func19, Tryz.ntmps19
    go_wp2_with (go_at_call 33; refine HR.out.mono ?_; rintro e w1 ⟨rfl, o1⟩; have HO := Lib.hid o1; have dg1 := only_cell dg o1; clear o1)
    go_loopg [5, 28] k (fun gk u v wx => ∃ (i : Nat) (A1 : Option Addr) (c1 : Nat), u = .slice A1 (listT (pc.take i) p).length c1 ∧ v = .int .i64 i ∧ i + gk = k ∧ Hid (NMade w1 A1 (listT (pc.take i) p).length c1 (listT (pc.take i) p) wx))
    case atStart => exact ⟨0, none, 0, rfl, rfl, by omega, Lib.hid (NMade.nil w1)⟩
    case round =>
      obtain ⟨i, A1, c1, rfl, rfl, hi2, HMD⟩ := hrel
      have hll := list_len pc p i
      by_cases hlt : i < k
      · have l4 : (i : Int) < (k : Int) := by omega
        obtain ⟨hpl, hpe⟩ := HPL.out i hlt
        have HLS := Lib.hid (list_step pc p i hpl)
        rw [hpe] at HLS
        clear hpl hpe
        have hli : lo + i < m := by omega
        obtain ⟨b, o, hA, d0, d1, d2, d3, d4⟩ := see_nd (HROW.out.see.new (HO.out.trans HMD.out.2.1)) (i := lo + i) (by rw [HM.out]; exact hli)
        obtain ⟨rfl, rfl, _⟩ := Addr.mk.inj (Option.some.inj hA)
        have hpq := HSH.out _ (getD_mem nd0 ps (lo + i) (by rw [HM.out]; exact hli))
        generalize ps.getD (lo + i) nd0 = q at d0 d1 d2 d3 d4 HLS hpq
        rw [Nat.zero_add, Nat.add_mul] at d0 d1 d2 d3 d4
        generalize listT (pc.take i) p = done at HMD HLS hll ⊢
        obtain ⟨y, hy⟩ : ∃ y, done.length = y := ⟨_, rfl⟩
        rw [hy] at HMD hll ⊢
        have HPR : Hid (∀ w2, Calls Tryz.prog 27 #[.string (tx q.path)] w2 fun e w' => e = .returned (.tuple #[.string (tx (parentF q.path).1), .bool (parentF q.path).2]) ∧ Only (fun _ => False) w2 w') := Lib.hid fun w2 => pparent q.path w2 (by omega)
        have HID : Hid (inDir p q = decide ((parentF q.path).1 = p)) := Lib.hid (inDir_iff p q)
        generalize inDir p q = ind at HLS HID
        generalize (parentF q.path).2 = ok at HPR
        generalize (parentF q.path).1 = dir at HPR HID
        have td := tx_toList dir
        by_cases hd : dir = p
        · have hd2 : (dir == p) = true := by rw [beq_iff_eq]; exact hd
          have HF : Hid (listT (pc.take (i + 1)) p = done ++ [q]) := Lib.hid (by rw [HLS.out, HID.out, decide_eq_true hd, if_pos rfl])
          clear hd HLS HID
          go_wp2_with (first
            | ((with_reducible show wpList _ _ _ (Oper.mk _ (Op.store _ _ _) _ _ _ _ :: _) _ _)
               refine wpList_store_is rfl 29 (.tmp 9) (.tmp 31) rfl wr.heap.size (ndVals q) rfl rfl 29 [.string ⟨#[]⟩, .bool false, .string ⟨#[]⟩, .int .i64 0, .int .i64 0] (Is.new wr _ _) infoNd5 rfl (by simp [ndVals, Value.oneCell']) ?_
               intro w5 i5 o5
               have e0 := i5.cell 0 rfl
               have e1 := i5.cell 1 rfl
               have e2 := i5.cell 2 rfl
               have e3 := i5.cell 3 rfl
               have e4 := i5.cell 4 rfl
               have H5 : Hid (NMade w1 A1 y c1 done w5) := Lib.hid (HMD.out.later (((Only.refl (fun _ => False) wr).alloc _).andThen o5 (by intro j hj; right; rw [hj]; exact Nat.le_refl _)))
               clear i5 o5)
            | (go_at_call 27; refine (HPR.out _).mono ?_; rintro e w6 ⟨rfl, o6⟩; have H6 : Hid (NMade w1 A1 y c1 done w6) := Lib.hid (H5.out.later o6); have f0 := only_cell e0 o6; have f1 := only_cell e1 o6; have f2 := only_cell e2 o6; have f3 := only_cell e3 o6; have f4 := only_cell e4 o6; clear o6)
            | (at_builtin
               refine wpList_append_rs rfl (.tmp 41) (.tmp 43) 27 27 29 rfl Tryz.underlying27 infoNd zeroNd A1 y c1 (nds done) (ndVals q) (.slice (some ⟨w6.heap.size, 0, none⟩) 1 1) (by rfl) (by rfl) (H6.out.1.alloc _) (Src.oneNd w6 q 1 29) (by omega) (by omega) ?_
               intro A2 c2 w7 hrow2 honly2 hlies2
               have HM2 : Hid (NMade w1 A2 (y + 1) c2 (done ++ [q]) w7) := Lib.hid (H6.out.append (by rw [← nds_snoc]; exact hrow2) honly2 hlies2)
               clear hrow2 honly2 hlies2))
          go_roundg (gk - 1)
          case measure => omega
          case rel =>
            have e : (done ++ [q]).length = y + 1 := by rw [List.length_append, hy]; rfl
            refine ⟨i + 1, A2, c2, ?_, by go_num, by omega, ?_⟩
            · rw [HF.out, e]
            · rw [HF.out, e]
              exact HM2
        · have hd2 : (dir == p) = false := by rw [beq_eq_false_iff_ne]; exact hd
          have HF : Hid (listT (pc.take (i + 1)) p = done) := Lib.hid (by rw [HLS.out, HID.out, decide_eq_false hd, if_neg (by decide), List.append_nil])
          clear hd HLS HID
          go_wp2_with (first
            | ((with_reducible show wpList _ _ _ (Oper.mk _ (Op.store _ _ _) _ _ _ _ :: _) _ _)
               refine wpList_store_is rfl 29 (.tmp 9) (.tmp 31) rfl wr.heap.size (ndVals q) rfl rfl 29 [.string ⟨#[]⟩, .bool false, .string ⟨#[]⟩, .int .i64 0, .int .i64 0] (Is.new wr _ _) infoNd5 rfl (by simp [ndVals, Value.oneCell']) ?_
               intro w5 i5 o5
               have e0 := i5.cell 0 rfl
               have e1 := i5.cell 1 rfl
               have e2 := i5.cell 2 rfl
               have e3 := i5.cell 3 rfl
               have e4 := i5.cell 4 rfl
               have H5 : Hid (NMade w1 A1 y c1 done w5) := Lib.hid (HMD.out.later (((Only.refl (fun _ => False) wr).alloc _).andThen o5 (by intro j hj; right; rw [hj]; exact Nat.le_refl _)))
               clear i5 o5)
            | (go_at_call 27; refine (HPR.out _).mono ?_; rintro e w6 ⟨rfl, o6⟩; have H6 : Hid (NMade w1 A1 y c1 done w6) := Lib.hid (H5.out.later o6); clear o6))
          go_roundg (gk - 1)
          case measure => omega
          case rel =>
            refine ⟨i + 1, A1, c1, ?_, by go_num, by omega, ?_⟩
            · rw [HF.out, hy]
            · rw [HF.out, hy]
              exact H6
      · obtain rfl : i = k := by omega
        have HE : Hid (listT (pc.take i) p = listT ps p) := Lib.hid (by rw [HLP.out, List.take_of_length_le (by rw [HPK.out]; exact Nat.le_refl _)])
        rw [HE.out] at HMD hll ⊢
        go_wp2
        go_ret
        have hn : NdsP w1 (listT ps p) (.returned (.slice A1 (listT ps p).length c1)) wr := ⟨A1, c1, rfl, HMD.out⟩
        exact (hn.see (A0 := none)).from HO.out fun j hj => by obtain ⟨_, e, _⟩ := hj; cases e
end Go.Proofs.YtaeaomlhbdbbfaaGreatDoor
