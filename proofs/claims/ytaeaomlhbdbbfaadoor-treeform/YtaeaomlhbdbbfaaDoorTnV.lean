/- Layer 15, the laws: behind any deeds the nodes make a tree, unless two collide. -/
import Derived.Test.YtaeaomlhbdbbfaaDoorTnU
namespace Go.Proofs.YtaeaomlhbdbbfaaDoor
open Go.RowKit
variable {G : World → Prop} {T : Value → List Nd → (Nat → Prop) → World → Prop}

/-- A node that comes in: its numbers fit. -/
def NdR (n : Nd) : Prop := -9223372036854775808 ≤ n.mode ∧ n.mode ≤ 9223372036854775807 ∧ -9223372036854775808 ≤ n.time ∧ n.time ≤ 9223372036854775807
theorem short_sm {d : Dd} (h : shortD d = true) (hr : NdR d.n) : NdSm d.n := by
  have h1 : ¬ 60 < d.n.path.length ∧ ¬ 60 < d.n.data.length := by
    unfold shortD at h
    by_cases c1 : 60 < d.n.path.length
    · rw [decide_eq_true c1] at h
      cases h
    · by_cases c2 : 60 < d.n.data.length
      · rw [decide_eq_false c1, decide_eq_true c2] at h
        cases h
      · exact ⟨c1, c2⟩
  exact ⟨⟨by omega, by omega, hr⟩, by omega, by omega⟩
theorem small_sm {ds : List Dd} (h : smallT ds 30 = true) (hr : ∀ d ∈ ds, NdR d.n) : ds.length ≤ 30 ∧ ∀ d ∈ ds, NdSm d.n := by
  unfold smallT at h
  rw [Bool.and_eq_true, List.all_eq_true] at h
  refine ⟨?_, fun d hd => short_sm (h.2 d hd) (hr d hd)⟩
  have h1 := h.1
  by_cases c : 30 < ds.length
  · rw [decide_eq_true c] at h1
    cases h1
  · omega
theorem run_snoc (ps : List Nd) (ds : List Dd) (i : Nat) (h : i < ds.length) : runT ps (ds.take (i + 1)) = (doneT (runT ps (ds.take i)) (ds.getD i dd0)).1 := by
  unfold runT
  rw [getD_take_snoc dd0 ds i h, List.foldl_append]
  rfl
theorem run_few {ds : List Dd} (hl : ds.length ≤ 30) (hs : ∀ d ∈ ds, NdSm d.n) (i : Nat) : Few (runT [] (ds.take i)) := by
  obtain ⟨h1, h2, h3⟩ := run_ok (ds.take i) [] (fun d hd => hs d (List.mem_of_mem_take hd)) Form.nil (fun n h => (by cases h))
  refine ⟨h1, h2, ?_⟩
  have : (ds.take i).length ≤ 30 := by
    rw [List.length_take]
    omega
  rw [List.length_nil] at h3
  omega
set_option maxRecDepth 100000 in
set_option maxHeartbeats 8000000 in
theorem treeFormWalk (C : TrC G T) (A : Option Addr) (n c B : Nat) (ds : List Dd) (w : World) (hg : G w) (hS : See w B A (dds ds)) (hn : ds.length = n) (hb : n ≤ 9223372036854775807) (hr : ∀ d ∈ ds, NdR d.n) : Calls Tryd.prog 4 #[.slice A n c] w fun e w' => e = .returned (.bool true) ∧ Only (fun _ => False) w w' := by
  have HAW := Lib.hid (awake15 C w hg)
  have HC := Lib.hid C
  have HGG := Lib.hid hg
  have HS := Lib.hid hS
  have HN := Lib.hid hn
  have HSM : Hid (∀ w1, Only (fun _ => False) w w1 → _) := Lib.hid fun w1 (o : Only (fun _ => False) w w1) => rsmallD A n c B ds w1 (hS.new o) hn hb
  have HSK := Lib.hid fun h => small_sm (ds := ds) h hr
  clear C hg hS hr
  generalize smallT ds 30 = S at HSM HSK
  go_enter Tryd.func4, Tryd.ntmps4
  go_wp2_with fail
  refine HAW.out.mono ?_
  rintro e w1 ⟨rfl, o1⟩
  have HO1 := Lib.hid o1
  clear o1 HAW
  go_wp2_with fail
  refine (HSM.out _ HO1.out).mono ?_
  rintro e w2 ⟨rfl, o2⟩
  have HO2 := Lib.hid (HO1.out.trans o2)
  clear o2 HSM HO1
  cases S with
  | false =>
    go_wp2
    go_ret
    exact ⟨rfl, HO2.out⟩
  | true =>
  have hn30 : n ≤ 30 := by
    have := (HSK.out rfl).1
    omega
  have HSN : Hid (∀ d ∈ ds, NdSm d.n) := Lib.hid (HSK.out rfl).2
  have HNW := Lib.hid (TAt.start HC.out w HGG.out w2 HO2.out)
  clear HSK hn hb
  go_wp2_with fail
  refine HNW.out.mono ?_
  rintro e w3 ⟨v, rfl, t3, _⟩
  have HT3 : Hid (TAt T w v (runT [] (ds.take 0)) (fun _ => False) w3) := Lib.hid t3
  clear t3 HNW HO2
  go_wp2_with fail
  go_loopg [17] n (fun gk u wx => ∃ i : Nat, u = .int .i64 i ∧ i + gk = n ∧ Hid (TAt T w v (runT [] (ds.take i)) (fun _ => False) wx))
  case atStart => exact ⟨0, rfl, by omega, HT3⟩
  case round =>
    obtain ⟨i, rfl, hi, HT⟩ := hrel
    by_cases hlt : i < n
    · have l4 : (i : Int) < (n : Int) := by omega
      have hlt2 : i < ds.length := by rw [HN.out]; exact hlt
      obtain ⟨b, o, rfl, d0, d1, d2, d3, d4, d5⟩ := see_dd (HS.out.new HT.out.only) hlt2
      have HR := Lib.hid (run_snoc [] ds i hlt2)
      have HF := Lib.hid (run_few (by rw [HN.out]; exact hn30) HSN.out i)
      have HD : Hid (NdSm (ds.getD i dd0).n) := Lib.hid (HSN.out _ (by
        rw [List.getD_eq_getElem?_getD, List.getElem?_eq_getElem hlt2]
        exact List.getElem_mem hlt2))
      clear hlt2
      obtain ⟨qs, hqs⟩ : ∃ qs, runT [] (ds.take (i + 1)) = qs := ⟨_, rfl⟩
      rw [hqs] at HR
      have HQS := Lib.hid hqs
      clear hqs
      generalize runT [] (ds.take i) = ps at HT HR HF
      generalize ds.getD i dd0 = d at *
      obtain ⟨kk, pa, di, da, mo, ti⟩ := d
      replace d0 : wr.cell? ⟨b, o + i * 6, none⟩ = some (.int .u8 kk) := d0
      replace d1 : wr.cell? ⟨b, o + i * 6 + 1, none⟩ = some (.string (tx pa)) := d1
      replace d2 : wr.cell? ⟨b, o + i * 6 + 2, none⟩ = some (.bool di) := d2
      replace d3 : wr.cell? ⟨b, o + i * 6 + 3, none⟩ = some (.string (tx da)) := d3
      replace d4 : wr.cell? ⟨b, o + i * 6 + 4, none⟩ = some (.int .i64 mo) := d4
      replace d5 : wr.cell? ⟨b, o + i * 6 + 5, none⟩ = some (.int .i64 ti) := d5
      replace HD : Hid (NdSm ⟨pa, di, da, mo, ti⟩) := Lib.hid HD.out
      have HTA : Hid (∀ x, TAt T w v ps (fun _ => False) (wr.alloc x)) := Lib.hid fun x => HT.out.new HC.out ((Only.refl _ wr).alloc x)
      have HR2 : Hid (qs = (doneT ps ⟨kk % 5, ⟨pa, di, da, mo, ti⟩⟩).1) := Lib.hid (by
        rw [← done_mod]
        exact HR.out)
      clear HR HT
      obtain ⟨K, hK⟩ : ∃ K, kk % 5 = K := ⟨_, rfl⟩
      have hK2 : (kk : Int) % 5 = (K : Int) := by omega
      have hK5 : K < 5 := by omega
      rw [hK] at HR2
      clear hK
      by_cases hc0 : K = 0
      · subst hc0
        replace hK2 : (kk : Int) % 5 = 0 := hK2
        have HQ : Hid (∀ x, Calls Tryd.prog 16 #[v, .agg #[.string (tx pa), .bool di, .string (tx da), .int .i64 mo, .int .i64 ti]] (wr.alloc x) (TPut T w v (doneT ps ⟨0, ⟨pa, di, da, mo, ti⟩⟩) (fun _ => False) (wr.alloc x))) := Lib.hid fun x => (HTA.out x).doPut HC.out HGG.out (fun _ h => h.elim) HF.out ⟨pa, di, da, mo, ti⟩ HD.out
        go_wp2_with fail
        refine (HQ.out _).mono ?_
        rintro e w5 ⟨rfl, t5, _⟩
        have HT5 : Hid (TAt T w v qs (fun _ => False) w5) := Lib.hid (by
          rw [HR2.out]
          exact t5)
        clear t5 HQ HTA HR2 d0 d1 d2 d3 d4 d5
        go_wp2_with fail
        go_roundg (gk - 1)
        case measure => omega
        case rel => exact ⟨i + 1, by go_num, by omega, by rw [HQS.out]; exact HT5⟩
      by_cases hc1 : K = 1
      · subst hc1
        replace hK2 : (kk : Int) % 5 = 1 := hK2
        have HQ : Hid (∀ x, Calls Tryd.prog 16 #[v, .agg #[.string (tx pa), .bool di, .string (tx da), .int .i64 mo, .int .i64 ti]] (wr.alloc x) (TPut T w v (doneT ps ⟨0, ⟨pa, di, da, mo, ti⟩⟩) (fun _ => False) (wr.alloc x))) := Lib.hid fun x => (HTA.out x).doPut HC.out HGG.out (fun _ h => h.elim) HF.out ⟨pa, di, da, mo, ti⟩ HD.out
        go_wp2_with fail
        refine (HQ.out _).mono ?_
        rintro e w5 ⟨rfl, t5, _⟩
        have HT5 : Hid (TAt T w v qs (fun _ => False) w5) := Lib.hid (by
          rw [HR2.out, done_one]
          exact t5)
        clear t5 HQ HTA HR2 d0 d1 d2 d3 d4 d5
        go_wp2_with fail
        go_roundg (gk - 1)
        case measure => omega
        case rel => exact ⟨i + 1, by go_num, by omega, by rw [HQS.out]; exact HT5⟩
      by_cases hc2 : K = 2
      · subst hc2
        replace hK2 : (kk : Int) % 5 = 2 := hK2
        have HQ : Hid (∀ x, Calls Tryd.prog 17 #[v, .string (tx pa)] (wr.alloc x) (TPut T w v (doneT ps ⟨2, ⟨pa, di, da, mo, ti⟩⟩) (fun _ => False) (wr.alloc x))) := Lib.hid fun x => (HTA.out x).doEnsure HC.out HGG.out (fun _ h => h.elim) HF.out ⟨pa, di, da, mo, ti⟩ HD.out
        go_wp2_with fail
        refine (HQ.out _).mono ?_
        rintro e w5 ⟨rfl, t5, _⟩
        have HT5 : Hid (TAt T w v qs (fun _ => False) w5) := Lib.hid (by
          rw [HR2.out]
          exact t5)
        clear t5 HQ HTA HR2 d0 d1 d2 d3 d4 d5
        go_wp2_with fail
        go_roundg (gk - 1)
        case measure => omega
        case rel => exact ⟨i + 1, by go_num, by omega, by rw [HQS.out]; exact HT5⟩
      by_cases hc3 : K = 3
      · subst hc3
        replace hK2 : (kk : Int) % 5 = 3 := hK2
        have HQ : Hid (∀ x, Calls Tryd.prog 18 #[v, .string (tx pa)] (wr.alloc x) (TPut T w v (doneT ps ⟨3, ⟨pa, di, da, mo, ti⟩⟩) (fun _ => False) (wr.alloc x))) := Lib.hid fun x => (HTA.out x).doRemove HC.out HGG.out (fun _ h => h.elim) HF.out ⟨pa, di, da, mo, ti⟩ HD.out
        go_wp2_with fail
        refine (HQ.out _).mono ?_
        rintro e w5 ⟨rfl, t5, _⟩
        have HT5 : Hid (TAt T w v qs (fun _ => False) w5) := Lib.hid (by
          rw [HR2.out]
          exact t5)
        clear t5 HQ HTA HR2 d0 d1 d2 d3 d4 d5
        go_wp2_with fail
        go_roundg (gk - 1)
        case measure => omega
        case rel => exact ⟨i + 1, by go_num, by omega, by rw [HQS.out]; exact HT5⟩
      by_cases hc4 : K = 4
      · subst hc4
        replace hK2 : (kk : Int) % 5 = 4 := hK2
        have HQ : Hid (∀ x, Calls Tryd.prog 19 #[v, .string (tx pa)] (wr.alloc x) (TPut T w v (doneT ps ⟨4, ⟨pa, di, da, mo, ti⟩⟩) (fun _ => False) (wr.alloc x))) := Lib.hid fun x => (HTA.out x).doClear HC.out HGG.out (fun _ h => h.elim) HF.out ⟨pa, di, da, mo, ti⟩ HD.out
        go_wp2_with fail
        refine (HQ.out _).mono ?_
        rintro e w5 ⟨rfl, t5, _⟩
        have HT5 : Hid (TAt T w v qs (fun _ => False) w5) := Lib.hid (by
          rw [HR2.out]
          exact t5)
        clear t5 HQ HTA HR2 d0 d1 d2 d3 d4 d5
        go_wp2_with fail
        go_roundg (gk - 1)
        case measure => omega
        case rel => exact ⟨i + 1, by go_num, by omega, by rw [HQS.out]; exact HT5⟩
      omega
    · obtain rfl : i = n := by omega
      have l4 : ¬ (i : Int) < (i : Int) := by omega
      have HF := run_few (by rw [HN.out]; exact hn30) HSN.out i
      have HCK := Lib.hid (run_check HF.1 HF.2.1 HF.2.2)
      have HFF := Lib.hid HF
      generalize runT [] (ds.take i) = ps at *
      have HAL := Lib.hid (HT.out.all HC.out HGG.out HFF.out.2.1 HFF.out.2.2)
      clear HF
      go_wp2_with fail
      refine HAL.out.mono ?_
      rintro e w5 ⟨A5, c5, B5, rfl, s1, s2, o5, _⟩
      have HT5 := Lib.hid (HT.out.new HC.out o5)
      have HRC := Lib.hid (rcheck A5 ps.length c5 B5 ps w5 s1 rfl ⟨by have := HFF.out.2.2; omega, fun m hm => (HFF.out.2.1 m hm).1⟩ s2)
      clear HAL HT o5 s1 s2
      go_wp2_with fail
      refine HRC.out.mono ?_
      rintro e w6 ⟨rfl, o6⟩
      have HT6 := Lib.hid (HT5.out.new HC.out o6)
      have HCO := Lib.hid (HT6.out.collision HC.out HGG.out HFF.out)
      clear HRC HT5 o6
      cases hc : collisionT ps with
      | none =>
        rw [hc] at HCO HCK
        have HK0 : checkT ps = 0 := HCK.out
        rw [HK0]
        clear HK0 hc
        replace HCO : Hid (Calls Tryd.prog 20 #[v] w6 fun e w' => e = .returned (.tuple #[.string ⟨#[]⟩, .bool false]) ∧ Only (fun _ => False) w6 w') := HCO
        go_wp2_with fail
        refine HCO.out.mono ?_
        rintro e w7 ⟨rfl, o7⟩
        have HO := Lib.hid (HT6.out.only.trans o7)
        clear HCO HT6 o7
        go_wp2
        go_ret
        exact ⟨rfl, HO.out⟩
      | some p =>
        rw [hc] at HCO HCK
        have HK0 : checkT ps = 6 := HCK.out
        rw [HK0]
        clear HK0 hc
        replace HCO : Hid (Calls Tryd.prog 20 #[v] w6 fun e w' => e = .returned (.tuple #[.string (tx p), .bool true]) ∧ Only (fun _ => False) w6 w') := HCO
        go_wp2_with fail
        refine HCO.out.mono ?_
        rintro e w7 ⟨rfl, o7⟩
        have HO := Lib.hid (HT6.out.only.trans o7)
        clear HCO HT6 o7
        go_wp2
        go_ret
        exact ⟨rfl, HO.out⟩
end Go.Proofs.YtaeaomlhbdbbfaaDoor
