/- Layer 8, the program: the tables of a block. -/
import Derived.Test.YtackcgiokkbhdaaDoorFixed
import Derived.Laws.ResultCell
namespace Go.Proofs.YtackcgiokkbhdaaDoor
open Go.RowKit

theorem kd_two (l : List Nat) : (kd l).2 = 0 ∨ (kd l).2 = 10 := by
  unfold kd
  split
  · exact .inl rfl
  · split
    · exact .inl rfl
    · split
      · exact .inl rfl
      · exact .inr rfl

def fixL (g1 g2 g3 g4 : Nat) : List (Nat × List Nat) := [(g1, List.replicate 144 8), (g2, List.replicate 112 9), (g3, List.replicate 24 7), (g4, List.replicate 8 8)]
theorem fixL_cat (g1 g2 g3 g4 : Nat) : catTo (fixL g1 g2 g3 g4) 4 = fixA := by kernel_rfl
theorem fixA_length : fixA.length = 288 := by decide +kernel

set_option maxRecDepth 20000 in
set_option maxHeartbeats 2000000 in
theorem fixedSymbols (w : World) : Calls Tryd.prog 59 #[] w (CatPost w fixA 288) := by
  have HR : Hid (∀ (g v k : Nat) (w2 : World), w2.cell? ⟨g, 0, none⟩ = some (.int .i64 v) → 1 ≤ k → k ≤ 300 → Calls Tryd.prog 60 #[.slice (some ⟨g, 0, none⟩) 1 1, .int .i64 k] w2 (RepPost w2 v k)) := Lib.hid fun g v k w2 h a b => repeated g v k w2 h a b
  go_enter Tryd.func59, Tryd.ntmps59
  go_wp2_with fail
  refine (HR.out w.heap.size 8 144 _ ((Is.new w 3 [.int .i64 8]).cell 0 rfl) (by decide) (by decide)).mono ?_
  rintro e w1 ⟨g1, rfl, hm1⟩
  have H1 := Lib.hid hm1
  have HO1 : Hid (Only (fun _ => False) w w1) := Lib.hid (((Only.refl _ w).alloc _).trans hm1.2.1)
  clear hm1
  go_wp2_with fail
  refine (HR.out w1.heap.size 9 112 _ ((Is.new w1 3 [.int .i64 9]).cell 0 rfl) (by decide) (by decide)).mono ?_
  rintro e w2 ⟨g2, rfl, hm2⟩
  have H2 := Lib.hid hm2
  have HO2 : Hid (Only (fun _ => False) w1 w2) := Lib.hid (((Only.refl _ w1).alloc _).trans hm2.2.1)
  clear hm2
  go_wp2_with fail
  refine (HR.out w2.heap.size 7 24 _ ((Is.new w2 3 [.int .i64 7]).cell 0 rfl) (by decide) (by decide)).mono ?_
  rintro e w3 ⟨g3, rfl, hm3⟩
  have H3 := Lib.hid hm3
  have HO3 : Hid (Only (fun _ => False) w2 w3) := Lib.hid (((Only.refl _ w2).alloc _).trans hm3.2.1)
  clear hm3
  go_wp2_with fail
  refine (HR.out w3.heap.size 8 8 _ ((Is.new w3 3 [.int .i64 8]).cell 0 rfl) (by decide) (by decide)).mono ?_
  rintro e w4 ⟨g4, rfl, hm4⟩
  have H4 := Lib.hid hm4
  have HO4 : Hid (Only (fun _ => False) w3 w4) := Lib.hid (((Only.refl _ w3).alloc _).trans hm4.2.1)
  clear hm4 HR
  have hS : ∀ (wy : World), Only (fun _ => False) w4 wy → (See wy wy.heap.size (some ⟨g1, 0, none⟩) (ints (List.replicate 144 8)) ∧ See wy wy.heap.size (some ⟨g2, 0, none⟩) (ints (List.replicate 112 9)) ∧ See wy wy.heap.size (some ⟨g3, 0, none⟩) (ints (List.replicate 24 7)) ∧ See wy wy.heap.size (some ⟨g4, 0, none⟩) (ints (List.replicate 8 8))) := fun wy ho => by
    have o4 := HO4.out.trans ho
    have o3 := HO3.out.trans o4
    have o2 := HO2.out.trans o3
    exact ⟨(H1.out.see.new o2).more o2.size, (H2.out.see.new o3).more o3.size, (H3.out.see.new o4).more o4.size, (H4.out.see.new ho).more ho.size⟩
  have hC := concat w4.heap.size 4 (fixL g1 g2 g3 g4) (w4.alloc (.cells [Value.slice (some ⟨g1, 0, none⟩) 144 144, .slice (some ⟨g2, 0, none⟩) 112 112, .slice (some ⟨g3, 0, none⟩) 24 24, .slice (some ⟨g4, 0, none⟩) 8 8].toArray 26)) rfl (by decide) (by
      obtain ⟨s1, s2, s3, s4⟩ := hS (w4.alloc (.cells [Value.slice (some ⟨g1, 0, none⟩) 144 144, .slice (some ⟨g2, 0, none⟩) 112 112, .slice (some ⟨g3, 0, none⟩) 24 24, .slice (some ⟨g4, 0, none⟩) 8 8].toArray 26)) ((Only.refl _ w4).alloc _)
      intro i g l h
      have hI := Is.new w4 26 [Value.slice (some ⟨g1, 0, none⟩) 144 144, .slice (some ⟨g2, 0, none⟩) 112 112, .slice (some ⟨g3, 0, none⟩) 24 24, .slice (some ⟨g4, 0, none⟩) 8 8]
      match i, h with
      | 0, h => obtain ⟨rfl, rfl⟩ : g1 = g ∧ List.replicate 144 8 = l := by simpa [fixL] using h
                exact ⟨hI.cell 0 rfl, s1⟩
      | 1, h => obtain ⟨rfl, rfl⟩ : g2 = g ∧ List.replicate 112 9 = l := by simpa [fixL] using h
                exact ⟨hI.cell 1 rfl, s2⟩
      | 2, h => obtain ⟨rfl, rfl⟩ : g3 = g ∧ List.replicate 24 7 = l := by simpa [fixL] using h
                exact ⟨hI.cell 2 rfl, s3⟩
      | 3, h => obtain ⟨rfl, rfl⟩ : g4 = g ∧ List.replicate 8 8 = l := by simpa [fixL] using h
                exact ⟨hI.cell 3 rfl, s4⟩
      | i + 4, h => simp [fixL] at h) 288 (by rw [fixL_cat]; exact fixA_length) (by decide) (by decide)
  rw [fixL_cat] at hC
  have HC := Lib.hid hC
  clear hC hS H1 H2 H3 H4
  go_wp2_with fail
  refine HC.out.mono ?_
  rintro e w5 ⟨A, c, rfl, hm5⟩
  have H5 := Lib.hid (hm5.later (((HO1.out.trans HO2.out).trans (HO3.out.trans HO4.out)).alloc _))
  clear hm5 HC
  go_wp2
  go_ret
  exact ⟨A, c, rfl, H5.out⟩

/-- A struct that lies in a block, and a slot, handed back. -/
theorem results_two {P : Program} {fn : Func} {p u : Tmp} {ty : TypeId} (h : fn.results = #[.cell p ty, .tmp u]) (tmps : Array Value) (w : World) (g : Nat) (t : TypeId) (cs : List Value) (d : TypeDesc)
    (hp : tmps.getD p undef = .pointer (some ⟨g, 0, none⟩)) (hg : Is w g t cs) (hu : P.underlying ty = some d) (hd : (match d with | .struct _ | .array _ _ => true | _ => false) = true) (hi : (P.info? ty).map (·.size) = some cs.length) :
    (results fn tmps).run P w = .ok (.tuple #[.agg cs.toArray, tmps.getD u undef]) w := by
  rw [results_cell_tmp h, hp]
  simp [asAddr, run_loadVar_row w g t ty cs.toArray (0, 0) d hg hu hd (by simpa using hi)]

/-- What newCodes comes to. -/
def NewC (w : World) (la lb : List Nat) (e : Ending) (w' : World) : Prop := Only (fun _ => False) w w' ∧
  if (kd la).2 ≠ 0 ∨ (kd lb).2 ≠ 0 then ∃ v, e = .returned (.tuple #[v, .int .i64 10]) ∧ ∃ p q, v = .agg #[.pointer p, .pointer q] else ∃ T1 T2 hi, e = .returned (.tuple #[.agg #[.pointer (some ⟨T1, 0, none⟩), .pointer (some ⟨T2, 0, none⟩)], .int .i64 0]) ∧ Cods w' w.heap.size hi T1 T2 la lb

set_option maxRecDepth 20000 in
set_option maxHeartbeats 2000000 in
theorem newCodes (A1 A2 : Option Addr) (n1 c1 n2 c2 : Nat) (la lb : List Nat) (w : World) (h1 : See w w.heap.size A1 (ints la)) (h2 : See w w.heap.size A2 (ints lb)) (hn1 : la.length = n1) (hn2 : lb.length = n2) (hla : Lens la) (hlb : Lens lb) :
    Calls Tryd.prog 58 #[.slice A1 n1 c1, .slice A2 n2 c2] w (NewC w la lb) := by
  obtain ⟨wa, hwa⟩ : ∃ wa, w.alloc (.cells #[.pointer none, .pointer none] 51) = wa := ⟨_, rfl⟩
  have hoa : Only (fun _ => False) w wa := by rw [← hwa]; exact (Only.refl _ w).alloc _
  have hia : Is wa w.heap.size 51 [.pointer none, .pointer none] := by rw [← hwa]; exact Is.new w 51 _
  obtain ⟨K, hK⟩ : ∃ K, w.heap.size = K := ⟨_, rfl⟩
  rw [hK] at hia
  have s1 : ∀ wx, Only (fun _ => False) wa wx → See wx wx.heap.size A1 (ints la) := fun wx ho => (h1.new (hoa.trans ho)).more (hoa.trans ho).size
  have s2 : ∀ wx, Only (fun _ => False) wa wx → See wx wx.heap.size A2 (ints lb) := fun wx ho => (h2.new (hoa.trans ho)).more (hoa.trans ho).size
  have l1 := hla.len
  have l2 := hlb.len
  rw [hn1] at l1
  rw [hn2] at l2
  rcases kd_two la with k1 | k1
  · have N1 := Lib.hid (new_yes A1 n1 c1 _ la wa (s1 wa (Only.refl _ _)) (Nat.le_refl _) hn1 l1 hla.low k1)
    rcases kd_two lb with k2 | k2
    · have N2 : Hid (∀ wx, Only (fun _ => False) wa wx → Calls Tryd.prog 74 #[.slice A2 n2 c2] wx (NewYes wx lb)) := Lib.hid fun wx ho => new_yes A2 n2 c2 _ lb wx (s2 wx ho) (Nat.le_refl _) hn2 l2 hlb.low k2
      have FIN : Hid (∀ T1 T2 w2 w3, Tab w2 wa.heap.size T1 la → Only (fun _ => False) wa w2 → wa.heap.size ≤ T1 → Tab w3 w2.heap.size T2 lb → Only (fun _ => False) w2 w3 → w2.heap.size ≤ T2 → NewC w la lb (.returned (.tuple #[.agg #[.pointer (some ⟨T1, 0, none⟩), .pointer (some ⟨T2, 0, none⟩)], .int .i64 0])) ((w3.setCell ⟨K, 0, none⟩ (.pointer (some ⟨T1, 0, none⟩))).setCell ⟨K, 1, none⟩ (.pointer (some ⟨T2, 0, none⟩))) ∧ Is w3 K 51 [.pointer none, .pointer none] ∧ Is ((w3.setCell ⟨K, 0, none⟩ (.pointer (some ⟨T1, 0, none⟩))).setCell ⟨K, 1, none⟩ (.pointer (some ⟨T2, 0, none⟩))) K 51 [.pointer (some ⟨T1, 0, none⟩), .pointer (some ⟨T2, 0, none⟩)]) := Lib.hid fun T1 T2 w2 w3 t1 o1 q1 t2 o2 q2 => by
        have oo := hoa.trans (o1.trans o2)
        have ow : Only (· = K) w3 ((w3.setCell ⟨K, 0, none⟩ (.pointer (some ⟨T1, 0, none⟩))).setCell ⟨K, 1, none⟩ (.pointer (some ⟨T2, 0, none⟩))) := (Only.one w3 K 0 _).trans (Only.one _ K 1 _)
        have hka := hia.lt
        have z1 := o1.size
        have i3 : Is w3 K 51 [.pointer none, .pointer none] := hia.only (o1.trans o2) fun f => f
        have tt1 := t1.lt
        have tt2 := t2.lt
        have t1' := (t1.new o2).keep ow fun j a b e => by omega
        have t2' := t2.keep ow fun j a b e => by omega
        refine ⟨⟨oo.andThen ow fun j e => .inr (by omega), ?_⟩, i3, (i3.set 0 _).set 1 _⟩
        rw [if_neg (by rw [k1, k2]; simp)]
        refine ⟨T1, T2, T2, rfl, t1'.less (by have := hoa.size; omega), t2'.less (by have := hoa.size; omega), by omega, Nat.le_refl _, ?_⟩
        have := ow.size
        omega
      clear h1 h2 hoa s1 s2 hla hlb k1 k2 l1 l2 hn1 hn2 hia
      go_enter Tryd.func58, Tryd.ntmps58
      go_wp2_with fail
      refine N1.out.mono ?_
      rintro e w2 ⟨T1, rfl, t1, o1, q1⟩
      have HT1 := Lib.hid t1
      have HO1 := Lib.hid o1
      clear t1 o1 N1
      go_wp2_with fail
      refine (N2.out w2 HO1.out).mono ?_
      rintro e w3 ⟨T2, rfl, t2, o2, q2⟩
      obtain ⟨f1, f2, f3⟩ := FIN.out T1 T2 w2 w3 HT1.out HO1.out q1 t2 o2 q2
      have HF := Lib.hid f1
      have g0 := f2.cell 0 rfl
      have g1 := f2.cell 1 rfl
      have z0 := f2.frozen 0
      have z1 := f2.frozen 1
      have HF3 := Lib.hid f3
      clear t2 o2 f1 f2 f3 N2 FIN HT1 HO1
      go_wp2
      refine bodyPost_ret (results_two rfl _ _ K 51 _ _ rfl HF3.out Tryd.underlying51 rfl (by kernel_rfl)) rfl ?_
      exact HF.out
    · have N2 : Hid (∀ wx, Only (fun _ => False) wa wx → Calls Tryd.prog 74 #[.slice A2 n2 c2] wx (NewNo wx 10)) := Lib.hid fun wx ho => new_bad A2 n2 c2 _ 10 wx (by have := check_yes A2 n2 c2 _ lb wx (s2 wx ho) hn2 l2 hlb.low; rw [k2] at this; exact this) (by decide)
      have FIN : Hid (∀ w2 w3, Only (fun _ => False) wa w2 → Only (fun _ => False) w2 w3 → NewC w la lb (.returned (.tuple #[.agg #[.pointer none, .pointer none], .int .i64 10])) ((w3.setCell ⟨K, 0, none⟩ (.pointer none)).setCell ⟨K, 1, none⟩ (.pointer none)) ∧ Is w3 K 51 [.pointer none, .pointer none] ∧ Is ((w3.setCell ⟨K, 0, none⟩ (.pointer none)).setCell ⟨K, 1, none⟩ (.pointer none)) K 51 [.pointer none, .pointer none]) := Lib.hid fun w2 w3 o1 o2 => by
        have oo := hoa.trans (o1.trans o2)
        have ow : Only (· = K) w3 ((w3.setCell ⟨K, 0, none⟩ (.pointer none)).setCell ⟨K, 1, none⟩ (.pointer none)) := (Only.one w3 K 0 _).trans (Only.one _ K 1 _)
        have i3 : Is w3 K 51 [.pointer none, .pointer none] := hia.only (o1.trans o2) fun f => f
        refine ⟨⟨oo.andThen ow fun j e => .inr (by omega), ?_⟩, i3, (i3.set 0 _).set 1 _⟩
        rw [if_pos (.inr (by rw [k2]; decide))]
        exact ⟨_, rfl, none, none, rfl⟩
      clear h1 h2 hoa s1 s2 hla hlb k1 k2 l1 l2 hn1 hn2 hia
      go_enter Tryd.func58, Tryd.ntmps58
      go_wp2_with fail
      refine N1.out.mono ?_
      rintro e w2 ⟨T1, rfl, t1, o1, q1⟩
      have HO1 := Lib.hid o1
      clear t1 o1 N1
      go_wp2_with fail
      refine (N2.out w2 HO1.out).mono ?_
      rintro e w3 ⟨rfl, o2⟩
      obtain ⟨f1, f2, f3⟩ := FIN.out w2 w3 HO1.out o2
      have HF := Lib.hid f1
      have g0 := f2.cell 0 rfl
      have g1 := f2.cell 1 rfl
      have z0 := f2.frozen 0
      have z1 := f2.frozen 1
      have HF3 := Lib.hid f3
      clear o2 f1 f2 f3 N2 FIN HO1
      go_wp2
      refine bodyPost_ret (results_two rfl _ _ K 51 _ _ rfl HF3.out Tryd.underlying51 rfl (by kernel_rfl)) rfl ?_
      exact HF.out
  · have N1 : Hid (Calls Tryd.prog 74 #[.slice A1 n1 c1] wa (NewNo wa 10)) := Lib.hid (new_bad A1 n1 c1 _ 10 wa (by have := check_yes A1 n1 c1 _ la wa (s1 wa (Only.refl _ _)) hn1 l1 hla.low; rw [k1] at this; exact this) (by decide))
    have FIN : Hid (∀ w3, Only (fun _ => False) wa w3 → NewC w la lb (.returned (.tuple #[.agg #[.pointer none, .pointer none], .int .i64 10])) ((w3.setCell ⟨K, 0, none⟩ (.pointer none)).setCell ⟨K, 1, none⟩ (.pointer none)) ∧ Is w3 K 51 [.pointer none, .pointer none] ∧ Is ((w3.setCell ⟨K, 0, none⟩ (.pointer none)).setCell ⟨K, 1, none⟩ (.pointer none)) K 51 [.pointer none, .pointer none]) := Lib.hid fun w3 o1 => by
      have oo := hoa.trans o1
      have ow : Only (· = K) w3 ((w3.setCell ⟨K, 0, none⟩ (.pointer none)).setCell ⟨K, 1, none⟩ (.pointer none)) := (Only.one w3 K 0 _).trans (Only.one _ K 1 _)
      have i3 : Is w3 K 51 [.pointer none, .pointer none] := hia.only o1 fun f => f
      refine ⟨⟨oo.andThen ow fun j e => .inr (by omega), ?_⟩, i3, (i3.set 0 _).set 1 _⟩
      rw [if_pos (.inl (by rw [k1]; decide))]
      exact ⟨_, rfl, none, none, rfl⟩
    clear h1 h2 hoa s1 s2 hla hlb k1 l1 l2 hn1 hn2 hia
    go_enter Tryd.func58, Tryd.ntmps58
    go_wp2_with fail
    refine N1.out.mono ?_
    rintro e w3 ⟨rfl, o1⟩
    obtain ⟨f1, f2, f3⟩ := FIN.out w3 o1
    have HF := Lib.hid f1
    have g0 := f2.cell 0 rfl
    have g1 := f2.cell 1 rfl
    have z0 := f2.frozen 0
    have z1 := f2.frozen 1
    have HF3 := Lib.hid f3
    clear o1 f1 f2 f3 N1 FIN
    go_wp2
    refine bodyPost_ret (results_two rfl _ _ K 51 _ _ rfl HF3.out Tryd.underlying51 rfl (by kernel_rfl)) rfl ?_
    exact HF.out
end Go.Proofs.YtackcgiokkbhdaaDoor
