/- Layer 15, the landed program: directories are ensured; there is room; what is under a path is taken away. -/
import Derived.Test.YtaeaomlhbdbbfaaGreatDoorTpE
/- Layer 15, the landed program: directories are ensured; there is room; what is under a path, and it, is taken away. -/
namespace Go.Proofs.YtaeaomlhbdbbfaaGreatDoor
open Go.RowKit

theorem EdT.start {w w1 : World} {g : Nat} {A : Option Addr} {c : Nat} {ps : List Nd} (h : TrAt w g A c ps) (o : Only (fun _ => False) w w1) : EdT w g A ps w1 := ⟨A, c, h.new o, fun _ hj => .inl hj, o.mono fun _ f => f.elim⟩
theorem EdT.later {w w1 w2 : World} {g : Nat} {A : Option Addr} {qs : List Nd} (h : EdT w g A qs w1) (o : Only (fun _ => False) w1 w2) : EdT w g A qs w2 := by
  obtain ⟨A1, c1, t1, l1, o1⟩ := h
  exact ⟨A1, c1, t1.new o, l1, o1.trans (o.mono fun _ f => f.elim)⟩
theorem EdT.from {w w1 w2 : World} {g : Nat} {A : Option Addr} {qs : List Nd} (o : Only (fun _ => False) w w1) (h : EdT w1 g A qs w2) : EdT w g A qs w2 := by
  obtain ⟨A1, c1, t1, l1, o1⟩ := h
  exact ⟨A1, c1, t1, fun j hj => (l1 j hj).imp id fun q => Nat.le_trans o.size q, (o.mono fun _ f => f.elim).trans o1⟩
theorem EdT.step {w w1 w2 : World} {g : Nat} {A A1 : Option Addr} {rs : List Nd} (hl : ∀ j, Lies A1 j → Lies A j ∨ w.heap.size ≤ j) (ho : Only (fun q => q = g ∨ Lies A q) w w1) (h : EdT w1 g A1 rs w2) : EdT w g A rs w2 := by
  obtain ⟨A2, c2, t2, l2, o2⟩ := h
  refine ⟨A2, c2, t2, fun j hj => ?_, ho.andThen o2 fun j hj => ?_⟩
  · rcases l2 j hj with q | q
    · exact hl j q
    · exact .inr (Nat.le_trans ho.size q)
  · rcases hj with q | q
    · exact .inl (.inl q)
    · rcases hl j q with q | q
      · exact .inl (.inr q)
      · exact .inr q
theorem EdT.next {w w1 w2 : World} {g : Nat} {A : Option Addr} {qs rs : List Nd} (h : EdT w g A qs w1) (k : ∀ A1 c1, TrAt w1 g A1 c1 qs → EdT w1 g A1 rs w2) : EdT w g A rs w2 := by
  obtain ⟨A1, c1, t1, l1, o1⟩ := h
  exact EdT.step l1 o1 (k A1 c1 t1)
/-- A row that was changed is laid back into the tree. -/
theorem EdT.back {w w1 w3 : World} {g : Nat} {A A2 : Option Addr} {c c2 m : Nat} {ps qs : List Nd} (h : TrAt w g A c ps) (o : Only (fun _ => False) w w1) (hm : qs.length = m) (hr : Rs 29 5 w3 A2 m c2 (nds qs)) (ho : Only (Lies A) w1 w3) (hl : ∀ j, Lies A2 j → Lies A j ∨ w1.heap.size ≤ j) :
    w3.cell? ⟨g, 0, none⟩ = some (.slice A ps.length c) ∧ w3.frozen? ⟨g, 0, none⟩ = false ∧ EdT w g A qs (w3.setCell ⟨g, 0, none⟩ (.slice A2 m c2)) := by
  subst hm
  have hg3 : Is w3 g 54 [.slice A ps.length c] := (h.hold.only o (fun f => f)).only ho h.far
  have hlg : ¬ Lies A2 g := fun hh => by
    rcases hl g hh with q | q
    · exact h.far q
    · have h1 := h.hold.lt
      have h2 := o.size
      omega
  refine ⟨hg3.cell 0 rfl, hg3.frozen 0, A2, c2, ⟨hg3.set 0 _, hr.only (Only.one w3 g 0 _) (by rintro j hj rfl; exact hlg hj), hlg⟩, fun j hj => (hl j hj).imp id fun q => Nat.le_trans o.size q, ?_⟩
  exact ((o.mono fun _ f => f.elim).trans (ho.mono fun j hj => .inr hj)).trans ((Only.one w3 g 0 _).mono fun j hj => .inl hj)
theorem ens_short : ∀ (L : List (List UInt8)) {ps : List Nd}, ShortP ps → (∀ q ∈ L, q.length ≤ 2000) → ShortP (L.foldl ensStep ps)
  | [], _, h, _ => h
  | q :: L, ps, h, hL => by
    rw [List.foldl_cons]
    refine ens_short L (fun x hx => ?_) fun y hy => hL y (List.mem_cons_of_mem _ hy)
    unfold ensStep at hx
    split at hx
    · exact h x hx
    · rcases set_mem hx with rfl | g
      · exact hL q List.mem_cons_self
      · exact h x g
set_option maxRecDepth 20000 in
set_option maxHeartbeats 8000000 in
theorem pensure0 (g : Nat) (A : Option Addr) (c : Nat) (ps : List Nd) (p : List UInt8) (w : World) (hg : Gr w) (h : TrAt w g A c ps) (hb : ps.length ≤ 6000) (hs : Srt ps) (hin : ShortP ps) (hp : rightF p = true) (hl : p.length ≤ 2000) : Calls Tryz.prog 28 #[.pointer (some ⟨g, 0, none⟩), .string (tx p)] w fun e w' => e = .returned (.tuple #[]) ∧ EdT w g A ((begs p).foldl ensStep ps) w' := by
  have HB := Lib.hid (pbegins p w hg hp hl)
  have hbl : (begs p).length ≤ 2001 := by have := begs_len p; omega
  have HQ : Hid (∀ q ∈ begs p, q.length ≤ 2000) := Lib.hid fun q hq => by have := begs_mem hq; omega
  have HT := Lib.hid h
  have HSR := Lib.hid hs
  have HIN := Lib.hid hin
  clear hg h hs hin hp hl
  generalize begs p = bs at *
  obtain ⟨n, hn⟩ : ∃ n, bs.length = n := ⟨_, rfl⟩
  have HN := Lib.hid hn
  go_enter Tryz.func28, Tryz.ntmps28
  go_wp2_with fail
  refine HB.out.mono ?_
  rintro e w1 ⟨A0, c0, rfl, hm0⟩
  have HR0 := Lib.hid hm0.1
  have HO0 := Lib.hid hm0.2.1
  have HDJ : Hid (∀ j, Lies A0 j → ¬ (j = g ∨ Lies A j)) := Lib.hid fun j hj hh => by
    have h1 := hm0.2.2 j hj
    rcases hh with rfl | q
    · have := HT.out.hold.lt
      omega
    · have := rs_lies HT.out.row j q
      omega
  rw [hn] at hbl ⊢
  clear hm0 HB hn
  go_wp2_with fail
  go_loopg [9] n (fun gk u wx => ∃ (i : Nat), u = .int .i64 i ∧ i + gk = n ∧ Hid (EdT w1 g A ((bs.take i).foldl ensStep ps) wx))
  case atStart => exact ⟨0, rfl, by omega, Lib.hid (EdT.start (HT.out.new HO0.out) (Only.refl _ _))⟩
  case round =>
    obtain ⟨i, rfl, hi, HE⟩ := hrel
    by_cases hlt : i < n
    · have l4 : (i : Int) < (n : Int) := by omega
      obtain ⟨A1, c1, t1, l1, o1⟩ := HE.out
      have hrow := HR0.out.only o1 HDJ.out
      obtain ⟨b1, off1, hA0, _, d1⟩ := hrow.see i _ (strs_at bs i (by rw [HN.out]; exact hlt))
      have hqq : (bs.getD i []).length ≤ 2000 := HQ.out _ (getD_mem [] bs i (by rw [HN.out]; exact hlt))
      have HTK : Hid ((bs.take (i + 1)).foldl ensStep ps = ensStep ((bs.take i).foldl ensStep ps) (bs.getD i [])) := Lib.hid (by
        rw [getD_take_snoc [] bs i (by rw [HN.out]; exact hlt), List.foldl_append]
        rfl)
      have hlen : ((bs.take i).foldl ensStep ps).length ≤ ps.length + i := by
        have := ens_len (bs.take i) ps
        rw [List.length_take] at this
        omega
      have HSQ := Lib.hid (ens_srt (bs.take i) HSR.out)
      have HIQ := Lib.hid (ens_short (bs.take i) HIN.out fun q hq => HQ.out q (List.mem_of_mem_take hq))
      have HT1 := Lib.hid t1
      have HL1 := Lib.hid l1
      have HO1 := Lib.hid o1
      clear t1 l1 o1 HE hrow
      subst hA0
      generalize bs.getD i [] = q at d1 hqq HTK
      generalize (bs.take i).foldl ensStep ps = qs at *
      obtain ⟨m, hm⟩ : ∃ m, qs.length = m := ⟨_, rfl⟩
      have HM := Lib.hid hm
      have dg : wr.cell? ⟨g, 0, none⟩ = some (.slice A1 m c1) := by rw [← hm]; exact HT1.out.hold.cell 0 rfl
      have HD := Lib.hid (phasdir A1 m c1 _ qs q wr HT1.out.row.see hm (by omega) HSQ.out (fun x hx => by have := HIQ.out x hx; omega) (by omega))
      rw [hm] at hlen
      clear hm
      cases hd : isDirT qs q with
      | true =>
        rw [hd] at HD
        have HF : Hid ((bs.take (i + 1)).foldl ensStep ps = qs) := Lib.hid (by rw [HTK.out]; unfold ensStep; rw [if_pos hd])
        clear HTK hd
        go_wp2_with (go_at_call 46; refine HD.out.mono ?_; rintro e w2 ⟨rfl, o2⟩; have HE2 : Hid (EdT w1 g A qs w2) := Lib.hid (EdT.step HL1.out HO1.out (EdT.start HT1.out o2)); clear o2)
        go_roundg (gk - 1)
        case measure => omega
        case rel => exact ⟨i + 1, by go_num, by omega, by rw [HF.out]; exact HE2⟩
      | false =>
        rw [hd] at HD
        have HF : Hid ((bs.take (i + 1)).foldl ensStep ps = setT qs (dirNd q)) := Lib.hid (by rw [HTK.out]; unfold ensStep; rw [if_neg (by rw [hd]; decide)])
        clear HTK hd
        have HS : Hid (∀ w2, Only (fun _ => False) wr w2 → Calls Tryz.prog 29 #[.pointer (some ⟨g, 0, none⟩), .agg #[.string (tx q), .bool true, .string ⟨#[]⟩, .int .i64 493, .int .i64 0]] w2 fun e w' => e = .returned (.tuple #[]) ∧ EdT w2 g A1 (setT qs (dirNd q)) w') := Lib.hid fun w2 o => psetV g A1 c1 qs q true [] 493 0 w2 (HT1.out.new o) (by rw [HM.out]; omega) HSQ.out HIQ.out hqq
        go_wp2_with (first
          | (go_at_call 46; refine HD.out.mono ?_; rintro e w2 ⟨rfl, o2⟩; have HO2 := Lib.hid o2; clear o2)
          | (go_at_call 29; refine (HS.out _ HO2.out).mono ?_; rintro e w3 ⟨rfl, e3⟩; have HE2 : Hid (EdT w1 g A (setT qs (dirNd q)) w3) := Lib.hid (EdT.step HL1.out HO1.out (EdT.from HO2.out e3)); clear e3))
        go_roundg (gk - 1)
        case measure => omega
        case rel => exact ⟨i + 1, by go_num, by omega, by rw [HF.out]; exact HE2⟩
    · obtain rfl : i = n := by omega
      have HE2 : Hid (EdT w g A (bs.foldl ensStep ps) wr) := Lib.hid (by
        have := HE.out
        rw [List.take_of_length_le (by rw [HN.out]; exact Nat.le_refl _)] at this
        exact EdT.from HO0.out this)
      clear HE
      go_wp2
      go_end0
      exact ⟨rfl, HE2.out⟩
end Go.Proofs.YtaeaomlhbdbbfaaGreatDoor

/- Layer 15, the landed program: there is room; what is under a path, and it, is taken away. -/
namespace Go.Proofs.YtaeaomlhbdbbfaaGreatDoor
open Go.RowKit

set_option maxRecDepth 20000 in
set_option maxHeartbeats 8000000 in
theorem pfills (g : Nat) (A : Option Addr) (c : Nat) (ps : List Nd) (p : List UInt8) (w : World) (hg : Gr w) (h : TrAt w g A c ps) (hb : ps.length ≤ 2000) (hs : Srt ps) (hin : ShortP ps) (hp : rightF p = true) (hl : p.length ≤ 60) : Calls Tryz.prog 26 #[.pointer (some ⟨g, 0, none⟩), .string (tx p)] w fun e w' => e = .returned (.bool false) ∧ Only (fun _ => False) w w' := by
  have HB := Lib.hid (pbegins p w hg hp (by omega))
  have hbl : (begs p).length ≤ 61 := by have := begs_len p; omega
  have HQ : Hid (∀ q ∈ begs p, q.length ≤ 2000) := Lib.hid fun q hq => by have := begs_mem hq; omega
  have HT := Lib.hid h
  obtain ⟨m, hm⟩ : ∃ m, ps.length = m := ⟨_, rfl⟩
  have dg : w.cell? ⟨g, 0, none⟩ = some (.slice A m c) := by rw [← hm]; exact h.hold.cell 0 rfl
  have HF : Hid (∀ q : List UInt8, q.length ≤ 2000 → ∀ w1, Only (fun _ => False) w w1 → Calls Tryz.prog 31 #[.slice A m c, .string (tx q)] w1 fun e w' => e = .returned (.tuple #[.int .i64 (posT ps q), .bool (thereT ps q)]) ∧ Only (fun _ => False) w1 w') := Lib.hid fun q hq w1 o => pfind A m c _ ps q w1 (h.row.see.new o) hm (by omega) hs (fun x hx => by have := hin x hx; omega) (by omega)
  rw [hm] at hb
  clear hg h hs hin hp hl hm
  generalize begs p = bs at *
  obtain ⟨n, hn⟩ : ∃ n, bs.length = n := ⟨_, rfl⟩
  have HN := Lib.hid hn
  go_enter Tryz.func26, Tryz.ntmps26
  go_wp2_with fail
  refine HB.out.mono ?_
  rintro e w1 ⟨A0, c0, rfl, hm0⟩
  have HR0 := Lib.hid hm0.1
  have HO0 := Lib.hid hm0.2.1
  rw [hn] at hbl ⊢
  clear hm0 HB hn
  go_wp2_with fail
  go_loopg [5, 18] n (fun gk u v wx => ∃ (i k : Nat), u = .int .i64 k ∧ v = .int .i64 i ∧ i + gk = n ∧ k ≤ m + i ∧ Hid (Only (fun _ => False) w1 wx))
  case atStart => exact ⟨0, m, rfl, rfl, by omega, by omega, Lib.hid (Only.refl _ _)⟩
  case round =>
    obtain ⟨i, k, rfl, rfl, hi, hk, HW⟩ := hrel
    by_cases hlt : i < n
    · have l4 : (i : Int) < (n : Int) := by omega
      have hrow := HR0.out.only HW.out fun _ _ f => f
      obtain ⟨b1, off1, hA0, _, d1⟩ := hrow.see i _ (strs_at bs i (by rw [HN.out]; exact hlt))
      have hqq : (bs.getD i []).length ≤ 2000 := HQ.out _ (getD_mem [] bs i (by rw [HN.out]; exact hlt))
      clear hrow
      subst hA0
      generalize bs.getD i [] = q at d1 hqq
      have HFQ := Lib.hid (HF.out q hqq wr (HO0.out.trans HW.out))
      have dr := only_cell dg (HO0.out.trans HW.out)
      generalize posT ps q = po at HFQ
      cases ht : thereT ps q with
      | true =>
        rw [ht] at HFQ
        clear ht
        go_wp2_with (go_at_call 31; refine HFQ.out.mono ?_; rintro e w2 ⟨rfl, o2⟩; have HO2 := Lib.hid (HW.out.trans o2); clear o2)
        go_roundg (gk - 1)
        case measure => omega
        case rel => exact ⟨i + 1, k, by go_num, by go_num, by omega, by omega, HO2⟩
      | false =>
        rw [ht] at HFQ
        clear ht
        go_wp2_with (go_at_call 31; refine HFQ.out.mono ?_; rintro e w2 ⟨rfl, o2⟩; have HO2 := Lib.hid (HW.out.trans o2); clear o2)
        go_roundg (gk - 1)
        case measure => omega
        case rel => exact ⟨i + 1, k + 1, by go_num, by go_num, by omega, by omega, HO2⟩
    · obtain rfl : i = n := by omega
      have q1 : decide ((4096 : Int) < (k : Int)) = false := decide_eq_false (by omega)
      go_wp2
      go_ret
      exact ⟨rfl, HO0.out.trans HW.out⟩
set_option maxRecDepth 20000 in
set_option maxHeartbeats 8000000 in
theorem pclear0 (g : Nat) (A : Option Addr) (c : Nat) (ps : List Nd) (p : List UInt8) (w : World) (h : TrAt w g A c ps) (hb : ps.length ≤ 6000) (hs : Srt ps) (hin : ShortP ps) (hne : ∀ n ∈ ps, n.path ≠ []) (hp : p.length ≤ 2000) : Calls Tryz.prog 10 #[.pointer (some ⟨g, 0, none⟩), .string (tx p)] w fun e w' => e = .returned (.int .i64 ((hiT ps p - loT ps p : Nat) : Int)) ∧ EdT w g A (dropT ps p false) w' := by
  have HR := Lib.hid (prange g A c ps p w h (by omega) hs hin (by omega))
  have HT := Lib.hid h
  have HD : Hid (dropT ps p false = ps.take (loT ps p) ++ ps.drop (hiT ps p)) := Lib.hid (drop_range hs hne p)
  have h1 := lo_hi ps p
  have h2 := hi_le ps p
  obtain ⟨m, hm⟩ : ∃ m, ps.length = m := ⟨_, rfl⟩
  have HM := Lib.hid hm
  have dg : w.cell? ⟨g, 0, none⟩ = some (.slice A m c) := by rw [← hm]; exact h.hold.cell 0 rfl
  rw [hm] at hb h2
  clear hs hin hne hp h hm
  generalize loT ps p = lo at *
  generalize hiT ps p = hi at *
  obtain ⟨k, hk⟩ : ∃ k, hi - lo = k := ⟨_, rfl⟩
  have hk2 : (hi : Int) - (lo : Int) = (k : Int) := by omega
  rw [hk]
  have HDL : Hid (∀ w1, Only (fun _ => False) w w1 → Calls Tryz.prog 32 #[.slice A m c, .int .i64 lo, .int .i64 hi] w1 (EditP w1 A (dropT ps p false))) := Lib.hid fun w1 o => by
    rw [HD.out]
    exact pdelete A m c ps lo hi w1 (by have := (HT.out.new o).row; rw [HM.out] at this; exact this) HM.out (by omega) h1 h2
  clear HD hk
  go_enter Tryz.func10, Tryz.ntmps10
  go_wp2_with (first
    | (go_at_call 33; refine HR.out.mono ?_; rintro e w1 ⟨rfl, o1⟩; have HO := Lib.hid o1; have d1 := only_cell dg o1; clear o1)
    | (go_at_call 32; refine (HDL.out _ HO.out).mono ?_; rintro e w3 ⟨A2, c2, rfl, r1, r2, r3⟩; obtain ⟨d3, f3, ed⟩ := EdT.back HT.out HO.out rfl r1 r2 r3; have HE := Lib.hid ed; clear r1 r2 r3 ed))
  go_ret
  exact ⟨rfl, HE.out⟩
end Go.Proofs.YtaeaomlhbdbbfaaGreatDoor
