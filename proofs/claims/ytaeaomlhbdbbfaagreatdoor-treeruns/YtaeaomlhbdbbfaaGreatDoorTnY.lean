/- Layer 15, the laws: whatever is done, one by one, the nodes are the document's. -/
import Derived.Test.YtaeaomlhbdbbfaaGreatDoorTnX
import Derived.Deep.CutBlock
namespace Go.Proofs.YtaeaomlhbdbbfaaGreatDoor
open Go.RowKit
variable {G : World → Prop} {T : Value → List Nd → (Nat → Prop) → World → Prop}

theorem See.off2 {w w' : World} {B : Nat} {A : Option Addr} {vs : List Value} {X : Nat → Prop} (h : See w B A vs) (k : Only X w w') (hd : ∀ j, Lies A j → ¬ X j) : See w' B A vs := by
  intro i v hv
  obtain ⟨b, off, hA, hb, hc⟩ := h i v hv
  exact ⟨b, off, hA, hb, (World.cell?_of_block (k.block _ (cell_lt hc) (hd b ⟨_, hA, rfl⟩))).trans hc⟩
theorem alloc_size (w : World) (o : Obj) : (w.alloc o).heap.size = w.heap.size + 1 := Array.size_push ..
set_option maxRecDepth 100000 in
set_option maxHeartbeats 16000000 in
theorem treeRunsWalk (C : TrC G T) (A : Option Addr) (n c B : Nat) (ds : List Dd) (w : World) (hg : G w) (hS : See w B A (dds ds)) (hn : ds.length = n) (hb : n ≤ 9223372036854775807) (hr : ∀ d ∈ ds, NdR d.n) (hk8 : ∀ d ∈ ds, d.k < 256) : Calls Tryz.prog 3 #[.slice A n c] w fun e w' => e = .returned (.bool true) ∧ Only (fun _ => False) w w' := by
  have HAW := Lib.hid (awake15 C w hg)
  have HC := Lib.hid C
  have HGG := Lib.hid hg
  have HS := Lib.hid hS
  have HN := Lib.hid hn
  have HSM : Hid (∀ w1, Only (fun _ => False) w w1 → _) := Lib.hid fun w1 (o : Only (fun _ => False) w w1) => rsmallD A n c B ds w1 (hS.new o) hn hb
  have HSK := Lib.hid fun h => small_sm (ds := ds) h hr
  have HK8 := Lib.hid hk8
  clear C hg hS hr hk8
  generalize smallT ds 30 = S at HSM HSK
  go_enter Tryz.func3, Tryz.ntmps3
  go_wp2_with fail
  refine HAW.out.mono ?_
  rintro e w1 ⟨rfl, o1⟩
  have HO1 := Lib.hid o1
  clear o1 HAW
  go_wp2_with fail
  refine (HSM.out _ HO1.out).mono ?_
  rintro e w2 ⟨rfl, o2⟩
  have HO2 := Lib.hid (HO1.out.trans o2)
  clear o2 HSM HO1
  cases S with
  | false =>
    go_wp2
    go_ret
    exact ⟨rfl, HO2.out⟩
  | true =>
  have hn30 : n ≤ 30 := by
    have := (HSK.out rfl).1
    omega
  have HSN : Hid (∀ d ∈ ds, NdSm d.n) := Lib.hid (HSK.out rfl).2
  have HNW := Lib.hid (TAt.start HC.out w HGG.out w2 HO2.out)
  clear HSK hn hb
  go_wp2_with fail
  refine HNW.out.mono ?_
  rintro e w3 ⟨v, rfl, t3, _⟩
  have HT3 : Hid (TAt T w v (runT [] (ds.take 0)) (Lies none) w3) := Lib.hid (t3.less fun q hq => by
    obtain ⟨_, e, _⟩ := hq
    cases e)
  clear t3 HNW HO2
  go_wp2_with fail
  go_loopg [4, 27] n (fun gk u4 u wx => ∃ (i : Nat) (A1 : Option Addr) (c1 B1 : Nat), u4 = .slice A1 (runT [] (ds.take i)).length c1 ∧ u = .int .i64 i ∧ i + gk = n ∧ (runT [] (ds.take i)).length ≤ c1 ∧ Hid (TAt T w v (runT [] (ds.take i)) (Lies A1) wx) ∧ Hid (See wx B1 A1 (nds (runT [] (ds.take i)))) ∧ Hid (∀ q, Lies A1 q → q < wx.heap.size))
  case atStart => exact ⟨0, none, 0, 0, rfl, rfl, by omega, Nat.le_refl _, HT3, Lib.hid fun j v hv => (by cases hv), Lib.hid fun q hq => (by
    obtain ⟨_, e, _⟩ := hq
    cases e)⟩
  case round =>
    obtain ⟨i, A1, c1, B1, rfl, rfl, hi, hc1, HT, HW, HLB⟩ := hrel
    by_cases hlt : i < n
    · have l4 : (i : Int) < (n : Int) := by omega
      have hlt2 : i < ds.length := by rw [HN.out]; exact hlt
      obtain ⟨b, o, rfl, d0, d1, d2, d3, d4, d5⟩ := see_dd (HS.out.new HT.out.only) hlt2
      have HR := Lib.hid (run_snoc [] ds i hlt2)
      have HF := Lib.hid (run_few (by rw [HN.out]; exact hn30) HSN.out i)
      have HF2 := Lib.hid (run_few (by rw [HN.out]; exact hn30) HSN.out (i + 1))
      have hmem : ds.getD i dd0 ∈ ds := by
        rw [List.getD_eq_getElem?_getD, List.getElem?_eq_getElem hlt2]
        exact List.getElem_mem hlt2
      have HD : Hid (NdSm (ds.getD i dd0).n) := Lib.hid (HSN.out _ hmem)
      have hkk := HK8.out _ hmem
      clear hlt2 hmem
      obtain ⟨qs, hqs⟩ : ∃ qs, runT [] (ds.take (i + 1)) = qs := ⟨_, rfl⟩
      rw [hqs] at HR HF2
      have HQS := Lib.hid hqs
      clear hqs
      generalize runT [] (ds.take i) = ps at HT HR HF HW hc1 ⊢
      generalize ds.getD i dd0 = d at *
      obtain ⟨kk, pa, di, da, mo, ti⟩ := d
      replace hkk : kk < 256 := hkk
      replace d0 : wr.cell? ⟨b, o + i * 6, none⟩ = some (.int .u8 kk) := d0
      replace d1 : wr.cell? ⟨b, o + i * 6 + 1, none⟩ = some (.string (tx pa)) := d1
      replace d2 : wr.cell? ⟨b, o + i * 6 + 2, none⟩ = some (.bool di) := d2
      replace d3 : wr.cell? ⟨b, o + i * 6 + 3, none⟩ = some (.string (tx da)) := d3
      replace d4 : wr.cell? ⟨b, o + i * 6 + 4, none⟩ = some (.int .i64 mo) := d4
      replace d5 : wr.cell? ⟨b, o + i * 6 + 5, none⟩ = some (.int .i64 ti) := d5
      replace HD : Hid (NdSm ⟨pa, di, da, mo, ti⟩) := Lib.hid HD.out
      obtain ⟨pl, hpl⟩ : ∃ pl, ps.length = pl := ⟨_, rfl⟩
      have HPL := Lib.hid hpl
      rw [hpl] at hc1 ⊢
      clear hpl
      obtain ⟨g, hgz⟩ : ∃ g, wr.heap.size = g := ⟨_, rfl⟩
      have HTA : Hid (∀ x, TAt T w v ps (fun q => Lies A1 q ∨ q = g) (wr.alloc x)) := Lib.hid fun x => HT.out.add HC.out ((Only.refl _ wr).alloc x) fun q hq => by
        rcases hq with h | h
        · exact .inl h
        · exact .inr (by omega)
      have HXB : Hid (∀ x, ∀ q, (Lies A1 q ∨ q = g) → q < (wr.alloc x).heap.size) := Lib.hid fun x q hq => by
        rw [alloc_size]
        rcases hq with h | h
        · have := HLB.out q h
          omega
        · omega
      have HWA : Hid (∀ x wy, Only (fun q => ¬ (Lies A1 q ∨ q = g)) (wr.alloc x) wy → See wy B1 A1 (nds ps)) := Lib.hid fun x wy k => (HW.out.new ((Only.refl _ wr).alloc x)).off2 k fun j hj hn => hn (.inl hj)
      have HIA : Hid (∀ wy, Only (fun q => ¬ (Lies A1 q ∨ q = g)) (wr.alloc (.cells #[.int .u8 kk, .string (tx pa), .bool di, .string (tx da), .int .i64 mo, .int .i64 ti] 31)) wy → Is wy g 31 [.int .u8 kk, .string (tx pa), .bool di, .string (tx da), .int .i64 mo, .int .i64 ti]) := Lib.hid fun wy k => by
        have h1 := Is.new wr 31 [.int .u8 kk, .string (tx pa), .bool di, .string (tx da), .int .i64 mo, .int .i64 ti]
        rw [hgz] at h1
        exact h1.only k fun hn => hn (.inr rfl)
      have HR2 : Hid (qs = (doneT ps ⟨kk % 5, ⟨pa, di, da, mo, ti⟩⟩).1) := Lib.hid (by
        rw [← done_mod]
        exact HR.out)
      have HDT : Hid (doneT ps ⟨kk, ⟨pa, di, da, mo, ti⟩⟩ = doneT ps ⟨kk % 5, ⟨pa, di, da, mo, ti⟩⟩) := Lib.hid (done_mod _ _ _)
      have HLG : Hid (∀ q, Lies A1 q → q < g) := Lib.hid fun q hq => by
        have := HLB.out q hq
        omega
      clear HR HT HW HLB
      obtain ⟨m, hm⟩ : ∃ m, (doneT ps ⟨kk, ⟨pa, di, da, mo, ti⟩⟩).2 = m := ⟨_, rfl⟩
      have HMM := Lib.hid hm
      clear hm
      obtain ⟨K, hK⟩ : ∃ K, kk % 5 = K := ⟨_, rfl⟩
      have hK2 : (kk : Int) % 5 = (K : Int) := by omega
      have hK5 : K < 5 := by omega
      rw [hK] at HR2 HDT
      clear hK
      go_upto_block 2 with fail
      go_cut [7, 33] (fun s7 s33 wx => s7 = .int .i64 m ∧ Hid (TAt T w v qs (fun q => Lies A1 q ∨ q = g) wx) ∧ Hid (See wx B1 A1 (nds ps)) ∧ Hid (Is wx g 31 [.int .u8 kk, .string (tx pa), .bool di, .string (tx da), .int .i64 mo, .int .i64 ti]))
      case first =>
        by_cases hc0 : K = 0
        · subst hc0
          replace hK2 : (kk : Int) % 5 = 0 := hK2
          have HQ : Hid (∀ x, Calls Tryz.prog 7 #[v, .agg #[.string (tx pa), .bool di, .string (tx da), .int .i64 mo, .int .i64 ti]] (wr.alloc x) (TPut T w v (doneT ps ⟨0, ⟨pa, di, da, mo, ti⟩⟩) (fun q => Lies A1 q ∨ q = g) (wr.alloc x))) := Lib.hid fun x => (HTA.out x).doPut HC.out HGG.out (HXB.out x) HF.out ⟨pa, di, da, mo, ti⟩ HD.out
          go_wp2_with fail
          refine (HQ.out _).mono ?_
          rintro e w5 ⟨he, t5, k5⟩
          replace he : e = .returned (.int .i64 m) := by rw [he, ← HMM.out, HDT.out]
          subst he
          have HT5 : Hid (TAt T w v qs (fun q => Lies A1 q ∨ q = g) w5) := Lib.hid (by
            rw [HR2.out]
            exact t5)
          have HW5 := Lib.hid (HWA.out _ _ k5)
          have HI5 := Lib.hid (HIA.out _ k5)
          clear t5 k5 HQ HTA HR2 d0 d1 d2 d3 d4 d5 HWA HIA HXB
          go_wp2_with fail
          go_meet
          exact ⟨rfl, HT5, HW5, HI5⟩
        by_cases hc1 : K = 1
        · subst hc1
          replace hK2 : (kk : Int) % 5 = 1 := hK2
          have HQ : Hid (∀ x, Calls Tryz.prog 7 #[v, .agg #[.string (tx pa), .bool di, .string (tx da), .int .i64 mo, .int .i64 ti]] (wr.alloc x) (TPut T w v (doneT ps ⟨0, ⟨pa, di, da, mo, ti⟩⟩) (fun q => Lies A1 q ∨ q = g) (wr.alloc x))) := Lib.hid fun x => (HTA.out x).doPut HC.out HGG.out (HXB.out x) HF.out ⟨pa, di, da, mo, ti⟩ HD.out
          go_wp2_with fail
          refine (HQ.out _).mono ?_
          rintro e w5 ⟨he, t5, k5⟩
          replace he : e = .returned (.int .i64 m) := by rw [he, ← HMM.out, HDT.out, done_one]
          subst he
          have HT5 : Hid (TAt T w v qs (fun q => Lies A1 q ∨ q = g) w5) := Lib.hid (by
            rw [HR2.out, done_one]
            exact t5)
          have HW5 := Lib.hid (HWA.out _ _ k5)
          have HI5 := Lib.hid (HIA.out _ k5)
          clear t5 k5 HQ HTA HR2 d0 d1 d2 d3 d4 d5 HWA HIA HXB
          go_wp2_with fail
          go_meet
          exact ⟨rfl, HT5, HW5, HI5⟩
        by_cases hc2 : K = 2
        · subst hc2
          replace hK2 : (kk : Int) % 5 = 2 := hK2
          have HQ : Hid (∀ x, Calls Tryz.prog 8 #[v, .string (tx pa)] (wr.alloc x) (TPut T w v (doneT ps ⟨2, ⟨pa, di, da, mo, ti⟩⟩) (fun q => Lies A1 q ∨ q = g) (wr.alloc x))) := Lib.hid fun x => (HTA.out x).doEnsure HC.out HGG.out (HXB.out x) HF.out ⟨pa, di, da, mo, ti⟩ HD.out
          go_wp2_with fail
          refine (HQ.out _).mono ?_
          rintro e w5 ⟨he, t5, k5⟩
          replace he : e = .returned (.int .i64 m) := by rw [he, ← HMM.out, HDT.out]
          subst he
          have HT5 : Hid (TAt T w v qs (fun q => Lies A1 q ∨ q = g) w5) := Lib.hid (by
            rw [HR2.out]
            exact t5)
          have HW5 := Lib.hid (HWA.out _ _ k5)
          have HI5 := Lib.hid (HIA.out _ k5)
          clear t5 k5 HQ HTA HR2 d0 d1 d2 d3 d4 d5 HWA HIA HXB
          go_wp2_with fail
          go_meet
          exact ⟨rfl, HT5, HW5, HI5⟩
        by_cases hc3 : K = 3
        · subst hc3
          replace hK2 : (kk : Int) % 5 = 3 := hK2
          have HQ : Hid (∀ x, Calls Tryz.prog 9 #[v, .string (tx pa)] (wr.alloc x) (TPut T w v (doneT ps ⟨3, ⟨pa, di, da, mo, ti⟩⟩) (fun q => Lies A1 q ∨ q = g) (wr.alloc x))) := Lib.hid fun x => (HTA.out x).doRemove HC.out HGG.out (HXB.out x) HF.out ⟨pa, di, da, mo, ti⟩ HD.out
          go_wp2_with fail
          refine (HQ.out _).mono ?_
          rintro e w5 ⟨he, t5, k5⟩
          replace he : e = .returned (.int .i64 m) := by rw [he, ← HMM.out, HDT.out]
          subst he
          have HT5 : Hid (TAt T w v qs (fun q => Lies A1 q ∨ q = g) w5) := Lib.hid (by
            rw [HR2.out]
            exact t5)
          have HW5 := Lib.hid (HWA.out _ _ k5)
          have HI5 := Lib.hid (HIA.out _ k5)
          clear t5 k5 HQ HTA HR2 d0 d1 d2 d3 d4 d5 HWA HIA HXB
          go_wp2_with fail
          go_meet
          exact ⟨rfl, HT5, HW5, HI5⟩
        by_cases hc4 : K = 4
        · subst hc4
          replace hK2 : (kk : Int) % 5 = 4 := hK2
          have HQ : Hid (∀ x, Calls Tryz.prog 10 #[v, .string (tx pa)] (wr.alloc x) (TPut T w v (doneT ps ⟨4, ⟨pa, di, da, mo, ti⟩⟩) (fun q => Lies A1 q ∨ q = g) (wr.alloc x))) := Lib.hid fun x => (HTA.out x).doClear HC.out HGG.out (HXB.out x) HF.out ⟨pa, di, da, mo, ti⟩ HD.out
          go_wp2_with fail
          refine (HQ.out _).mono ?_
          rintro e w5 ⟨he, t5, k5⟩
          replace he : e = .returned (.int .i64 m) := by rw [he, ← HMM.out, HDT.out]
          subst he
          have HT5 : Hid (TAt T w v qs (fun q => Lies A1 q ∨ q = g) w5) := Lib.hid (by
            rw [HR2.out]
            exact t5)
          have HW5 := Lib.hid (HWA.out _ _ k5)
          have HI5 := Lib.hid (HIA.out _ k5)
          clear t5 k5 HQ HTA HR2 d0 d1 d2 d3 d4 d5 HWA HIA HXB
          go_wp2_with fail
          go_meet
          exact ⟨rfl, HT5, HW5, HI5⟩
        omega
      case rest =>
        obtain ⟨rfl, HT5, HW5, HI5⟩ := hcut
        have HQ1 : Hid ((doneT ps ⟨kk, ⟨pa, di, da, mo, ti⟩⟩).1 = qs) := Lib.hid (by rw [HDT.out, HR2.out])
        clear HTA HR2 HDT d0 d1 d2 d3 d4 d5 HWA HIA HXB hK2 hK5 hgz
        have HDN := Lib.hid (rdone A1 pl c1 B1 ps ⟨kk, ⟨pa, di, da, mo, ti⟩⟩ wc HW5.out HPL.out (by have := HF.out.2.2; rw [HPL.out] at this; omega) (fun x hx => (HF.out.2.1 x hx).1) hc1 HD.out hkk)
        rw [HQ1.out, HMM.out] at HDN
        obtain ⟨ql, hql⟩ : ∃ ql, qs.length = ql := ⟨_, rfl⟩
        have HQL := Lib.hid hql
        have hq2 : ql ≤ 2000 := by
          have := HF2.out.2.2
          omega
        clear hql HQ1
        have y0 := HI5.out.cell 0 rfl
        have y1 := HI5.out.cell 1 rfl
        have y2 := HI5.out.cell 2 rfl
        have y3 := HI5.out.cell 3 rfl
        have y4 := HI5.out.cell 4 rfl
        have y5 := HI5.out.cell 5 rfl
        go_wp2_with fail
        refine HDN.out.mono ?_
        rintro e w6 ⟨A6, c6, B6, rfl, s1, s2, o6, s4⟩
        rw [HQL.out] at s2 ⊢
        have HT6 : Hid (TAt T w v qs (Lies A6) w6) := Lib.hid (HT5.out.add HC.out o6 fun q hq => (s4 q hq).elim (fun h => .inl (.inl h)) fun h => .inr h.1)
        have HL6 : Hid (∀ q, Lies A6 q → q < w6.heap.size) := Lib.hid fun q hq => by
          rcases s4 q hq with h | h
          · have h1 := HLG.out q h
            have h2 := HI5.out.lt
            have h3 := o6.size
            omega
          · exact h.2
        have HI6 := Lib.hid (HI5.out.only o6 fun f => f)
        have HW6 := Lib.hid s1
        have HAL := Lib.hid (HT6.out.all HC.out HGG.out HF2.out.2.1 HF2.out.2.2)
        have km : (m == m) = true := by rw [beq_iff_eq]
        clear HDN HT5 HI5 HW5 HLG s1 s4 o6 y0 y1 y2 y3 y4 y5
        go_wp2_with fail
        refine HAL.out.mono ?_
        rintro e w7 ⟨A7, c7, B7, rfl, s1, _, o7, _⟩
        rw [HQL.out]
        have HT7 := Lib.hid (HT6.out.new HC.out o7)
        have HI7 := Lib.hid (HI6.out.only o7 fun f => f)
        have HW7 := Lib.hid (HW6.out.new o7)
        have HL7 : Hid (∀ q, Lies A6 q → q < w7.heap.size) := Lib.hid fun q hq => Nat.lt_of_lt_of_le (HL6.out q hq) o7.size
        have HSA := Lib.hid (rsame A7 A6 ql c7 ql c6 B7 B6 qs qs w7 s1 HW7.out HQL.out HQL.out (by omega) (by omega))
        rw [decide_eq_true rfl] at HSA
        clear HAL HT6 HI6 HW6 s1 o7
        go_wp2_with fail
        refine HSA.out.mono ?_
        rintro e w8 ⟨rfl, o8⟩
        have HT8 := Lib.hid (HT7.out.new HC.out o8)
        have HI8 := Lib.hid (HI7.out.only o8 fun f => f)
        have HW8 := Lib.hid (HW7.out.new o8)
        have HL8 : Hid (∀ q, Lies A6 q → q < w8.heap.size) := Lib.hid fun q hq => Nat.lt_of_lt_of_le (HL7.out q hq) o8.size
        have HLN := Lib.hid (HT8.out.len HC.out HGG.out HF2.out)
        rw [HQL.out] at HLN
        clear HSA HT7 HI7 HW7 o8
        go_wp2_with fail
        refine HLN.out.mono ?_
        rintro e w9 ⟨rfl, o9⟩
        have HT9 := Lib.hid (HT8.out.new HC.out o9)
        have HI9 := Lib.hid (HI8.out.only o9 fun f => f)
        have HW9 := Lib.hid (HW8.out.new o9)
        have HL9 : Hid (∀ q, Lies A6 q → q < w9.heap.size) := Lib.hid fun q hq => Nat.lt_of_lt_of_le (HL8.out q hq) o9.size
        have HBY := Lib.hid (HT9.out.bytes HC.out HGG.out HF2.out)
        have HRB : Hid (∀ w1, Only (fun _ => False) w9 w1 → _) := Lib.hid fun w1 (o : Only (fun _ => False) w9 w1) => rbytes A6 ql c6 B6 qs w1 (HW9.out.new o) HQL.out ⟨by rw [HQL.out]; omega, fun x hx => (HF2.out.2.1 x hx).1⟩
        have hbb := bytes_le 60 qs fun x hx => (HF2.out.2.1 x hx).2.2
        rw [HQL.out] at hbb
        generalize bytesT qs = bq at HBY HRB hbb
        clear HLN HT8 HI8 HW8 o9
        go_wp2_with fail
        refine HBY.out.mono ?_
        rintro e w10 ⟨rfl, o10⟩
        have HRB2 := Lib.hid (HRB.out w10 o10)
        have HT10 := Lib.hid (HT9.out.new HC.out o10)
        have HI10 := Lib.hid (HI9.out.only o10 fun f => f)
        have HW10 := Lib.hid (HW9.out.new o10)
        have HL10 : Hid (∀ q, Lies A6 q → q < w10.heap.size) := Lib.hid fun q hq => Nat.lt_of_lt_of_le (HL9.out q hq) o10.size
        clear HBY HT9 HI9 HW9 o10 HRB
        go_wp2_with fail
        refine HRB2.out.mono ?_
        rintro e w10b ⟨rfl, hwb⟩
        subst w10b
        have HGE := Lib.hid (HT10.out.get HC.out HGG.out HF2.out pa HD.out.2.1)
        have HRG : Hid (∀ w1, Only (fun _ => False) w10 w1 → _) := Lib.hid fun w1 (o : Only (fun _ => False) w10 w1) => rget A6 ql c6 B6 qs pa w1 (HW10.out.new o) HQL.out (by omega)
        generalize (gotT qs pa).2 = ok at HGE HRG
        generalize (gotT qs pa).1 = x at HGE HRG
        obtain ⟨xa, xi, xd, xm, xt⟩ := x
        replace HGE : Hid (Calls Tryz.prog 17 #[v, .string (tx pa)] w10 fun e w' => e = .returned (.tuple #[.agg #[.string (tx xa), .bool xi, .string (tx xd), .int .i64 xm, .int .i64 xt], .bool ok]) ∧ Only (fun _ => False) w10 w') := HGE
        replace HRG : Hid (∀ w1, Only (fun _ => False) w10 w1 → Calls Tryz.prog 18 #[.slice A6 ql c6, .string (tx pa)] w1 fun e w' => e = .returned (.tuple #[.agg #[.string (tx xa), .bool xi, .string (tx xd), .int .i64 xm, .int .i64 xt], .bool ok]) ∧ Only (fun _ => False) w1 w') := HRG
        have z1 := HI10.out.cell 1 rfl
        clear HRB2
        go_wp2_with fail
        refine HGE.out.mono ?_
        rintro e w11 ⟨rfl, o11⟩
        have O11 := Lib.hid o11
        have HI11 := Lib.hid (HI10.out.only o11 fun f => f)
        have HJA : Hid (∀ wy, Only (fun _ => False) (w11.alloc (.cells #[.string (tx xa), .bool xi, .string (tx xd), .int .i64 xm, .int .i64 xt] 29)) wy → Is wy w11.heap.size 29 [.string (tx xa), .bool xi, .string (tx xd), .int .i64 xm, .int .i64 xt]) := Lib.hid fun wy k => (Is.new w11 _ _).only k fun f => f
        have HRG2 := Lib.hid fun q => HRG.out (w11.alloc q) (O11.out.trans ((Only.refl _ w11).alloc q))
        have z11 : ∀ q, (w11.alloc q).cell? ⟨g, 1, none⟩ = some (.string (tx pa)) := fun q => (HI11.out.only ((Only.refl (fun _ => False) w11).alloc q) fun f => f).cell 1 rfl
        clear HGE HRG HI10 o11 z1
        obtain ⟨X9, hX9⟩ : ∃ X9, w11.heap.size = X9 := ⟨_, rfl⟩
        rw [hX9] at HJA
        go_wp2_with fail
        refine (HRG2.out _).mono ?_
        rintro e w12 ⟨rfl, o12⟩
        have HJ12 := Lib.hid (HJA.out _ o12)
        have O12 := Lib.hid (O11.out.trans (((Only.refl _ w11).alloc _).trans o12))
        have HI12 := Lib.hid (HI11.out.only (((Only.refl _ w11).alloc _).trans o12) fun f => f)
        clear HRG2 HJA o12 O11 HI11 hX9 z11
        obtain ⟨X11, hX11⟩ : ∃ X11, w12.heap.size = X11 := ⟨_, rfl⟩
        have HL13 : Hid (Is (w12.alloc (.cells #[.string (tx xa), .bool xi, .string (tx xd), .int .i64 xm, .int .i64 xt] 29)) X11 29 [.string (tx xa), .bool xi, .string (tx xd), .int .i64 xm, .int .i64 xt]) := Lib.hid (by
          rw [← hX11]
          exact Is.new w12 _ _)
        have HALO : Hid (∀ q, Only (fun _ => False) w12 (w12.alloc q)) := Lib.hid fun q => (Only.refl _ w12).alloc q
        have HJ13 := Lib.hid fun q => HJ12.out.only (HALO.out q) fun f => f
        have HI13 := Lib.hid fun q => HI12.out.only (HALO.out q) fun f => f
        have HT13 := Lib.hid fun q => HT10.out.new HC.out (O12.out.trans (HALO.out q))
        have HW13 := Lib.hid fun q => HW10.out.new (O12.out.trans (HALO.out q))
        have HB13 : Hid (∀ x q, Lies A6 q → q < (w12.alloc x).heap.size) := Lib.hid fun x q hq => Nat.lt_of_lt_of_le (HL10.out q hq) (O12.out.trans (HALO.out x)).size
        clear HJ12 HI12 HT10 HW10 O12 HALO HL6 HL7 HL8 HL9 HL10
        go_upto_region 27 with fail
        have HJ := Lib.hid (HJ13.out (.cells #[.string (tx xa), .bool xi, .string (tx xd), .int .i64 xm, .int .i64 xt] 29))
        have HI := Lib.hid (HI13.out (.cells #[.string (tx xa), .bool xi, .string (tx xd), .int .i64 xm, .int .i64 xt] 29))
        have HT := Lib.hid (HT13.out (.cells #[.string (tx xa), .bool xi, .string (tx xd), .int .i64 xm, .int .i64 xt] 29))
        have HW := Lib.hid (HW13.out (.cells #[.string (tx xa), .bool xi, .string (tx xd), .int .i64 xm, .int .i64 xt] 29))
        have HB := Lib.hid (HB13.out (.cells #[.string (tx xa), .bool xi, .string (tx xd), .int .i64 xm, .int .i64 xt] 29))
        clear HJ13 HI13 HT13 HW13 HB13
        generalize w12.alloc (.cells #[.string (tx xa), .bool xi, .string (tx xd), .int .i64 xm, .int .i64 xt] 29) = w13 at *
        have HLI := Lib.hid ((HT.out.new HC.out ((Only.refl (fun _ => False) w13).drew)).list HC.out HGG.out HF2.out pa HD.out.2.1)
        have HDL : Hid (∀ w1, Only (fun _ => False) w13.drew w1 → _) := Lib.hid fun w1 (o : Only (fun _ => False) w13.drew w1) => rlist A6 ql c6 B6 qs pa w1 ((HW.out.new ((Only.refl (fun _ => False) w13).drew)).new o) HQL.out ⟨by rw [HQL.out]; omega, fun y hy => (HF2.out.2.1 y hy).1⟩
        have hll : (listT qs pa).length ≤ 2000 := by
          have h1 : (listT qs pa).length ≤ qs.length := List.length_filter_le ..
          rw [HQL.out] at h1
          omega
        generalize listT qs pa = L at HLI HDL hll
        obtain ⟨ln, hln⟩ : ∃ ln, L.length = ln := ⟨_, rfl⟩
        have HLN := Lib.hid hln
        rw [hln] at hll
        clear hln
        have hneq : ∀ W : World, (binOp .neq 29 (.agg #[.string (tx xa), .bool xi, .string (tx xd), .int .i64 xm, .int .i64 xt]) (.agg #[.string (tx xa), .bool xi, .string (tx xd), .int .i64 xm, .int .i64 xt])).run Tryz.prog W = .ok (.bool false) W := fun W => by
          have := neq_nd ⟨xa, xi, xd, xm, xt⟩ ⟨xa, xi, xd, xm, xt⟩ W
          rw [decide_eq_true rfl] at this
          exact this
        have kok : (ok == ok) = true := by rw [beq_iff_eq]
        have a0 := HJ.out.cell 0 rfl
        have a1 := HJ.out.cell 1 rfl
        have a2 := HJ.out.cell 2 rfl
        have a3 := HJ.out.cell 3 rfl
        have a4 := HJ.out.cell 4 rfl
        have b0 := HL13.out.cell 0 rfl
        have b1 := HL13.out.cell 1 rfl
        have b2 := HL13.out.cell 2 rfl
        have b3 := HL13.out.cell 3 rfl
        have b4 := HL13.out.cell 4 rfl
        have i1 := HI.out.cell 1 rfl
        go_region_held3 (fun W => W.cell? ⟨X9, 0, none⟩ = some (.string (tx xa)) ∧ W.cell? ⟨X9, 1, none⟩ = some (.bool xi) ∧ W.cell? ⟨X9, 2, none⟩ = some (.string (tx xd)) ∧ W.cell? ⟨X9, 3, none⟩ = some (.int .i64 xm) ∧ W.cell? ⟨X9, 4, none⟩ = some (.int .i64 xt) ∧ W.cell? ⟨X11, 0, none⟩ = some (.string (tx xa)) ∧ W.cell? ⟨X11, 1, none⟩ = some (.bool xi) ∧ W.cell? ⟨X11, 2, none⟩ = some (.string (tx xd)) ∧ W.cell? ⟨X11, 3, none⟩ = some (.int .i64 xm) ∧ W.cell? ⟨X11, 4, none⟩ = some (.int .i64 xt) ∧ W.cell? ⟨g, 1, none⟩ = some (.string (tx pa))) (first | exact ⟨a0, a1, a2, a3, a4, b0, b1, b2, b3, b4, i1⟩ | exact ⟨by assumption, by assumption, by assumption, by assumption, by assumption, by assumption, by assumption, by assumption, by assumption, by assumption, by assumption⟩)
          (first
            | (go_at_call 19; refine HLI.out.mono ?_; rintro e w14 ⟨A14, c14, B14, rfl, s14, _, o14, _⟩
               rw [HLN.out]
               have a0_14 : w14.cell? ⟨X9, 0, none⟩ = some (.string (tx xa)) := only_cell (by first | assumption | exact a0) o14
               have a1_14 : w14.cell? ⟨X9, 1, none⟩ = some (.bool xi) := only_cell (by first | assumption | exact a1) o14
               have a2_14 : w14.cell? ⟨X9, 2, none⟩ = some (.string (tx xd)) := only_cell (by first | assumption | exact a2) o14
               have a3_14 : w14.cell? ⟨X9, 3, none⟩ = some (.int .i64 xm) := only_cell (by first | assumption | exact a3) o14
               have a4_14 : w14.cell? ⟨X9, 4, none⟩ = some (.int .i64 xt) := only_cell (by first | assumption | exact a4) o14
               have b0_14 : w14.cell? ⟨X11, 0, none⟩ = some (.string (tx xa)) := only_cell (by first | assumption | exact b0) o14
               have b1_14 : w14.cell? ⟨X11, 1, none⟩ = some (.bool xi) := only_cell (by first | assumption | exact b1) o14
               have b2_14 : w14.cell? ⟨X11, 2, none⟩ = some (.string (tx xd)) := only_cell (by first | assumption | exact b2) o14
               have b3_14 : w14.cell? ⟨X11, 3, none⟩ = some (.int .i64 xm) := only_cell (by first | assumption | exact b3) o14
               have b4_14 : w14.cell? ⟨X11, 4, none⟩ = some (.int .i64 xt) := only_cell (by first | assumption | exact b4) o14
               have i1_14 : w14.cell? ⟨g, 1, none⟩ = some (.string (tx pa)) := only_cell (by first | assumption | exact i1) o14
               have HS14 := Lib.hid s14
               have O14 := Lib.hid o14
               clear s14 o14)
            | (go_at_call 20; refine (HDL.out _ O14.out).mono ?_; intro e w15 h15
               obtain ⟨A15, c15, B15, rfl, s15, _, o15, _⟩ := NdsP.see (A0 := none) h15
               rw [HLN.out]
               have a0_15 : w15.cell? ⟨X9, 0, none⟩ = some (.string (tx xa)) := only_cell (by first | assumption | exact a0) o15
               have a1_15 : w15.cell? ⟨X9, 1, none⟩ = some (.bool xi) := only_cell (by first | assumption | exact a1) o15
               have a2_15 : w15.cell? ⟨X9, 2, none⟩ = some (.string (tx xd)) := only_cell (by first | assumption | exact a2) o15
               have a3_15 : w15.cell? ⟨X9, 3, none⟩ = some (.int .i64 xm) := only_cell (by first | assumption | exact a3) o15
               have a4_15 : w15.cell? ⟨X9, 4, none⟩ = some (.int .i64 xt) := only_cell (by first | assumption | exact a4) o15
               have b0_15 : w15.cell? ⟨X11, 0, none⟩ = some (.string (tx xa)) := only_cell (by first | assumption | exact b0) o15
               have b1_15 : w15.cell? ⟨X11, 1, none⟩ = some (.bool xi) := only_cell (by first | assumption | exact b1) o15
               have b2_15 : w15.cell? ⟨X11, 2, none⟩ = some (.string (tx xd)) := only_cell (by first | assumption | exact b2) o15
               have b3_15 : w15.cell? ⟨X11, 3, none⟩ = some (.int .i64 xm) := only_cell (by first | assumption | exact b3) o15
               have b4_15 : w15.cell? ⟨X11, 4, none⟩ = some (.int .i64 xt) := only_cell (by first | assumption | exact b4) o15
               have i1_15 : w15.cell? ⟨g, 1, none⟩ = some (.string (tx pa)) := only_cell (by first | assumption | exact i1) o15
               have HSA2 := Lib.hid (rsame A14 A15 ln c14 ln c15 B14 B15 L L w15 (HS14.out.new o15) s15 HLN.out HLN.out (by omega) (by omega))
               rw [decide_eq_true rfl] at HSA2
               have O15 := Lib.hid (O14.out.trans o15)
               clear h15 s15 o15)
            | (go_at_call 12; refine HSA2.out.mono ?_; rintro e w16 ⟨rfl, o16⟩
               have a0_16 : w16.cell? ⟨X9, 0, none⟩ = some (.string (tx xa)) := only_cell (by first | assumption | exact a0) o16
               have a1_16 : w16.cell? ⟨X9, 1, none⟩ = some (.bool xi) := only_cell (by first | assumption | exact a1) o16
               have a2_16 : w16.cell? ⟨X9, 2, none⟩ = some (.string (tx xd)) := only_cell (by first | assumption | exact a2) o16
               have a3_16 : w16.cell? ⟨X9, 3, none⟩ = some (.int .i64 xm) := only_cell (by first | assumption | exact a3) o16
               have a4_16 : w16.cell? ⟨X9, 4, none⟩ = some (.int .i64 xt) := only_cell (by first | assumption | exact a4) o16
               have b0_16 : w16.cell? ⟨X11, 0, none⟩ = some (.string (tx xa)) := only_cell (by first | assumption | exact b0) o16
               have b1_16 : w16.cell? ⟨X11, 1, none⟩ = some (.bool xi) := only_cell (by first | assumption | exact b1) o16
               have b2_16 : w16.cell? ⟨X11, 2, none⟩ = some (.string (tx xd)) := only_cell (by first | assumption | exact b2) o16
               have b3_16 : w16.cell? ⟨X11, 3, none⟩ = some (.int .i64 xm) := only_cell (by first | assumption | exact b3) o16
               have b4_16 : w16.cell? ⟨X11, 4, none⟩ = some (.int .i64 xt) := only_cell (by first | assumption | exact b4) o16
               have i1_16 : w16.cell? ⟨g, 1, none⟩ = some (.string (tx pa)) := only_cell (by first | assumption | exact i1) o16
               have O16 := Lib.hid (O15.out.trans o16)
               clear o16))
        have OX : Only (fun _ => False) w13 w16 := ((Only.refl (fun _ => False) w13).drew).trans O16.out
        have HT16 := Lib.hid (HT.out.new HC.out OX)
        have HW16 := Lib.hid (HW.out.new OX)
        have HB16 : Hid (∀ q, Lies A6 q → q < w16.heap.size) := Lib.hid fun q hq => Nat.lt_of_lt_of_le (HB.out q hq) OX.size
        have hpa : pa.length ≤ 60 := HD.out.2.1
        have HPP := Lib.hid (rparent pa w16 (by omega))
        have hpl := parent_len pa
        clear HT HW HB HI HJ HL13 OX O14 O15 O16 HSA2 HS14 HLN HLI HDL hneq kok hll
        clear a0 a1 a2 a3 a4 b0 b1 b2 b3 b4 i1 a0_14 a1_14 a2_14 a3_14 a4_14 b0_14 b1_14 b2_14 b3_14 b4_14 i1_14 a0_15 a1_15 a2_15 a3_15 a4_15 b0_15 b1_15 b2_15 b3_15 b4_15 i1_15 a0_16 a1_16 a2_16 a3_16 a4_16 b0_16 b1_16 b2_16 b3_16 b4_16 i1_16
        generalize (parentF pa).1 = pp at HPP hpl
        generalize (parentF pa).2 = hp at HPP
        go_wp2_with fail
        refine HPP.out.mono ?_
        rintro e w16b ⟨rfl, hwb⟩
        subst w16b
        clear HPP
        cases hp with
        | false =>
          go_wp2_with fail
          go_roundg (gk - 1)
          case measure => omega
          case rel => exact ⟨i + 1, A6, c6, B6, by rw [HQS.out, HQL.out], by go_num, by omega, by rw [HQS.out, HQL.out]; exact s2, by rw [HQS.out]; exact HT16, by rw [HQS.out]; exact HW16, HB16⟩
        | true =>
          have HLI := Lib.hid (HT16.out.list HC.out HGG.out HF2.out pp (by omega))
          have HDL : Hid (∀ w1, Only (fun _ => False) w16 w1 → _) := Lib.hid fun w1 (o : Only (fun _ => False) w16 w1) => rlist A6 ql c6 B6 qs pp w1 (HW16.out.new o) HQL.out ⟨by rw [HQL.out]; omega, fun y hy => (HF2.out.2.1 y hy).1⟩
          have hll : (listT qs pp).length ≤ 2000 := by
            have h1 : (listT qs pp).length ≤ qs.length := List.length_filter_le ..
            rw [HQL.out] at h1
            omega
          generalize listT qs pp = L2 at HLI HDL hll
          obtain ⟨ln2, hln⟩ : ∃ ln2, L2.length = ln2 := ⟨_, rfl⟩
          have HLN := Lib.hid hln
          rw [hln] at hll
          clear hln
          go_wp2_with fail
          refine HLI.out.mono ?_
          rintro e w17 ⟨A17, c17, B17, rfl, s17, _, o17, _⟩
          rw [HLN.out]
          have HS17 := Lib.hid s17
          have O17 := Lib.hid o17
          clear s17 o17 HLI
          go_wp2_with fail
          refine (HDL.out _ O17.out).mono ?_
          intro e w18 h18
          obtain ⟨A18, c18, B18, rfl, s18, _, o18, _⟩ := NdsP.see (A0 := none) h18
          rw [HLN.out]
          have HSA2 := Lib.hid (rsame A17 A18 ln2 c17 ln2 c18 B17 B18 L2 L2 w18 (HS17.out.new o18) s18 HLN.out HLN.out (by omega) (by omega))
          rw [decide_eq_true rfl] at HSA2
          have O18 := Lib.hid (O17.out.trans o18)
          clear h18 s18 o18 HDL HS17 O17
          go_wp2_with fail
          refine HSA2.out.mono ?_
          rintro e w19 ⟨rfl, o19⟩
          have O19 := Lib.hid (O18.out.trans o19)
          clear o19 HSA2 O18
          go_wp2_with fail
          go_roundg (gk - 1)
          case measure => omega
          case rel => exact ⟨i + 1, A6, c6, B6, by rw [HQS.out, HQL.out], by go_num, by omega, by rw [HQS.out, HQL.out]; exact s2, by rw [HQS.out]; exact Lib.hid (HT16.out.new HC.out O19.out), by rw [HQS.out]; exact Lib.hid (HW16.out.new O19.out), Lib.hid fun q hq => Nat.lt_of_lt_of_le (HB16.out q hq) O19.out.size⟩
    · obtain rfl : i = n := by omega
      have l4 : ¬ (i : Int) < (i : Int) := by omega
      have HF := Lib.hid (run_few (by rw [HN.out]; exact hn30) HSN.out i)
      generalize runT [] (ds.take i) = ps at *
      obtain ⟨pl, hpl⟩ : ∃ pl, ps.length = pl := ⟨_, rfl⟩
      have HPL := Lib.hid hpl
      have hp2 := HF.out.2.2
      rw [hpl] at hc1 hp2 ⊢
      clear hpl
      have HCO := Lib.hid (HT.out.collision HC.out HGG.out HF.out)
      have HRC : Hid (∀ w1, Only (fun _ => False) wr w1 → _) := Lib.hid fun w1 (o : Only (fun _ => False) wr w1) => rcollision A1 pl c1 B1 ps w1 (HW.out.new o) HPL.out ⟨by rw [HPL.out]; omega, fun y hy => (HF.out.2.1 y hy).1⟩ hc1
      generalize (collA (collisionT ps)).1 = cp at HCO HRC
      generalize (collA (collisionT ps)).2 = ok at HCO HRC
      have tq := tx_toList cp
      have kp : (cp == cp) = true := by rw [beq_iff_eq]
      have kok : (ok == ok) = true := by rw [beq_iff_eq]
      go_wp2_with fail
      refine HCO.out.mono ?_
      rintro e w5 ⟨rfl, o5⟩
      have HC5 := Lib.hid (HRC.out w5 o5)
      have HT5 := Lib.hid (HT.out.new HC.out o5)
      have HW5 := Lib.hid (HW.out.new o5)
      clear HCO HRC HT HW o5
      go_wp2_with fail
      refine HC5.out.mono ?_
      rintro e w6 ⟨rfl, o6⟩
      have HT6 := Lib.hid (HT5.out.new HC.out o6)
      have HW6 := Lib.hid (HW5.out.new o6)
      have HLI := HT6.out.list HC.out HGG.out HF.out [] (by decide)
      have HDL := fun w1 (o : Only (fun _ => False) w6 w1) => rlist A1 pl c1 B1 ps [] w1 (HW6.out.new o) HPL.out ⟨by rw [HPL.out]; omega, fun y hy => (HF.out.2.1 y hy).1⟩
      have hll : (listT ps []).length ≤ 2000 := by
        have h1 : (listT ps []).length ≤ ps.length := List.length_filter_le ..
        rw [HPL.out] at h1
        omega
      generalize listT ps [] = L2 at HLI HDL hll
      have HLI2 : Hid (Calls Tryz.prog 19 #[v, .string ⟨#[]⟩] w6 (SeeP w6 none L2)) := Lib.hid HLI
      have HDL2 : Hid (∀ w1, Only (fun _ => False) w6 w1 → Calls Tryz.prog 20 #[.slice A1 pl c1, .string ⟨#[]⟩] w1 (NdsP w1 L2)) := Lib.hid HDL
      obtain ⟨ln2, hln⟩ : ∃ ln2, L2.length = ln2 := ⟨_, rfl⟩
      have HLN := Lib.hid hln
      rw [hln] at hll
      clear hln HLI HDL HC5 HT5 HW5 o6
      go_wp2_with fail
      refine HLI2.out.mono ?_
      rintro e w17 ⟨A17, c17, B17, rfl, s17, _, o17, _⟩
      rw [HLN.out]
      have HS17 := Lib.hid s17
      have O17 := Lib.hid o17
      clear s17 o17 HLI2
      go_wp2_with fail
      refine (HDL2.out _ O17.out).mono ?_
      intro e w18 h18
      obtain ⟨A18, c18, B18, rfl, s18, _, o18, _⟩ := NdsP.see (A0 := none) h18
      rw [HLN.out]
      have HSA2 := Lib.hid (rsame A17 A18 ln2 c17 ln2 c18 B17 B18 L2 L2 w18 (HS17.out.new o18) s18 HLN.out HLN.out (by omega) (by omega))
      rw [decide_eq_true rfl] at HSA2
      have O18 := Lib.hid (O17.out.trans o18)
      clear h18 s18 o18 HDL2 HS17 O17
      go_wp2_with fail
      refine HSA2.out.mono ?_
      rintro e w19 ⟨rfl, o19⟩
      have HO := Lib.hid (HT6.out.only.trans (O18.out.trans o19))
      clear o19 HSA2 O18
      go_wp2
      go_ret
      exact ⟨rfl, HO.out⟩
end Go.Proofs.YtaeaomlhbdbbfaaGreatDoor
