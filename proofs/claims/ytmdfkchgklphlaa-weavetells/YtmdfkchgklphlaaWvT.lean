/- Layer 16: the law's loop over the program's iterator. -/
import Derived.Test.YtmdfkchgklphlaaWvL
import Derived.Test.YtmdfkchgklphlaaGRound
import Derived.Shelf.Abstract
import Derived.Shelf.RegionOpen
import Derived.WalkKit
import Derived.OwnWalkIn
import Derived.TacticsInMore
import Derived.LoopNIn
import Derived.LoopIn
import Derived.Sort.LoopGhostIn
namespace Go.Proofs.Ytmdfkchgklphlaa
open Go.RowKit Go.Shelf

attribute [local go_sem] Oper.semAt_some
variable {G : World → Prop}

/-- What stands between two rounds. -/
def TI (w : World) (H : Nat) (A : Option Addr) (n c most : Nat) (A1 : Option Addr) (N c1 : Nat) (U : List (List UInt8)) (i : Nat) (W : World) : Prop :=
  Only (fun _ => False) w W ∧ Is W w.heap.size 22 [.slice A n c] ∧ Is W (w.heap.size + 1) 3 [.int .i64 (most : Nat)] ∧ Is W (w.heap.size + 1 + 1) 4 [.bool false] ∧ Is W H 26 [.slice A1 N c1] ∧ Is W (H + 1) 3 [.int .i64 (i : Nat)] ∧ See W H A1 (strs U)
theorem TI.later {w : World} {H : Nat} {A : Option Addr} {n c most : Nat} {A1 : Option Addr} {N c1 : Nat} {U : List (List UInt8)} {i : Nat} {W W2 : World} (hH : w.heap.size + 3 ≤ H) (h : TI w H A n c most A1 N c1 U i W) (k : Only (fun j => H + 2 ≤ j) W W2) : TI w H A n c most A1 N c1 U i W2 := by
  obtain ⟨h0, h1, h2, h3, h4, h5, h6⟩ := h
  exact ⟨h0.andThen k fun j q => .inr (by omega), h1.only k (by omega), h2.only k (by omega), h3.only k (by omega), h4.only k (by omega), h5.only k (by omega), h6.keep (k.mono fun j q => by omega)⟩
theorem TI.same {w : World} {H : Nat} {A : Option Addr} {n c most : Nat} {A1 : Option Addr} {N c1 : Nat} {U : List (List UInt8)} {i : Nat} {W W2 : World} (h : TI w H A n c most A1 N c1 U i W) (k : Only (fun _ => False) W W2) : TI w H A n c most A1 N c1 U i W2 := by
  obtain ⟨h0, h1, h2, h3, h4, h5, h6⟩ := h
  exact ⟨h0.trans k, h1.only k fun f => f, h2.only k fun f => f, h3.only k fun f => f, h4.only k fun f => f, h5.only k fun f => f, h6.new k⟩
theorem TI.next {w : World} {H : Nat} {A : Option Addr} {n c most : Nat} {A1 : Option Addr} {N c1 : Nat} {U : List (List UInt8)} {i : Nat} {W : World} (hH : w.heap.size + 3 ≤ H) (h : TI w H A n c most A1 N c1 U i W) : TI w H A n c most A1 N c1 U (i + 1) (W.setCell ⟨H + 1, 0, none⟩ (.int .i64 ((i + 1 : Nat) : Int))) := by
  obtain ⟨h0, h1, h2, h3, h4, h5, h6⟩ := h
  exact ⟨h0.set (.inr (by show _ ≤ H + 1; omega)) _, h1.far (by show _ ≠ H + 1; omega) _, h2.far (by show _ ≠ H + 1; omega) _, h3.far (by show _ ≠ H + 1; omega) _, h4.far (by show _ ≠ H + 1; omega) _, h5.set 0 _,
    h6.keep (w := W) ((Only.refl (fun j => H ≤ j) W).set (.inl (by show H ≤ H + 1; omega)) _)⟩
theorem Rows2.more {w : World} {B C : Nat} {A : Option Addr} {rs : List TRow} (h : Rows2 w B A rs) (hB : B ≤ C) : Rows2 w C A rs := ⟨h.1.more hB, fun r hr => ⟨(h.2 r hr).1.more hB, (h.2 r hr).2⟩⟩
theorem sum_le (m : Nat) : ∀ l : List (List (List UInt8)), (∀ r ∈ l, r.length ≤ m) → totalF l ≤ l.length * m
  | [], _ => Nat.zero_le _
  | r :: l, h => by
    have h1 := sum_le m l fun q hq => h q (List.mem_cons_of_mem _ hq)
    have h0 := h r List.mem_cons_self
    have e : totalF (r :: l) = r.length + totalF l := by simp [totalF]
    rw [e, List.length_cons, Nat.add_mul, Nat.one_mul]
    omega
theorem union_small {rs : List TRow} (h : smallW rs) : (unionF (txts rs)).length ≤ 160 := by
  have h1 := union_length (txts rs)
  have h2 := sum_le 20 (txts rs) fun r hr => by
    obtain ⟨q, hq, rfl⟩ := List.mem_map.1 hr
    exact (h.2 q hq).1
  rw [List.length_map] at h2
  have h3 := h.1
  omega
theorem cell_put {W : World} {b i D : Nat} {v : Value} {o : Obj} (hb : b ≠ D) (h : W.cell? ⟨b, i, none⟩ = some v) : (W.putObj D o).cell? ⟨b, i, none⟩ = some v := by
  unfold World.cell? at h ⊢
  simp only [World.putObj_heap_other hb]
  exact h
theorem cell_not_loop {W : World} {b i l : Nat} {v : Value} {r : Loop} (h : W.cell? ⟨b, i, none⟩ = some v) (hl : W.heap[l]? = some (.loop r)) (o : Obj) : (W.putObj l o).cell? ⟨b, i, none⟩ = some v := by
  have hb : b ≠ l := fun e => by
    unfold World.cell? at h
    simp only [e, hl] at h
    cases h
  exact cell_put hb h
theorem RoundX.put {rs : List TRow} {i : Nat} {W : World} {l : Nat} {r : Loop} {o : Obj} {args : Array Value} (h : RoundX rs i W args) (hl : W.heap[l]? = some (.loop r)) : RoundX rs i (W.putObj l o) args := by
  obtain ⟨A, c, B, e, hs⟩ := h
  refine ⟨A, c, B, e, fun k v hk => ?_⟩
  obtain ⟨b, off, e1, e2, e3⟩ := hs k v hk
  exact ⟨b, off, e1, e2, cell_not_loop e3 hl o⟩
set_option maxRecDepth 100000 in
set_option maxHeartbeats 4000000 in
theorem ltold (C : WvC G) (A : Option Addr) (n c B : Nat) (rs : List TRow) (most : Nat) (w : World) (hg : G w) (h : Rows2 w B A rs) (hn : rs.length = n) (hin : smallW rs) (hB : B ≤ w.heap.size) :
    Calls Try.prog 7 #[.slice A n c, .int .i64 most] w fun e w' => e = .returned (.bool true) ∧ Only (fun _ => False) w w' := by
  have HK : Hid (∀ w', Only (fun _ => False) w w' → G w') := Lib.hid fun w' k => C.keep w w' hg k
  have HS := Lib.hid h
  have HU : Hid (∀ w1, Only (fun _ => False) w w1 → Calls Try.prog 8 #[.slice A n c] w1 (StrsP w1 (unionF (txts rs)))) := Lib.hid fun w1 k => runion A n c B rs w1 (h.new k) hn hin.tin
  have HP : Hid (∀ w1 s, Only (fun _ => False) w w1 → Calls Try.prog 11 #[.slice A n c, .string (tx s)] w1 (IntsP w1 (placesF (txts rs) s))) := Lib.hid fun w1 s k => rplaces A n c B rs s w1 (h.new k) hn hin.tin
  have HW : Hid (∀ w1, Only (fun _ => False) w w1 → Calls Try.prog 12 #[.slice A n c] w1 fun e w' =>
    (∃ gf lb, e = .returned (.func (.func gf) #[] lb) ∧ (∀ args w, (callFunc gf args).run Try.prog w = .ok (.enter gf args) w) ∧ SeqR Try.prog G gf lb (unionF (txts rs)).length (RoundX rs) w.heap.size w1.heap.size w') ∧ Only (fun _ => False) w1 w') := Lib.hid fun w1 k => C.weave A n c w.heap.size rs w1 (C.keep _ _ hg k) ((h.more hB).new k) hn hin k.size
  have hus := union_small hin
  have hn8 : n ≤ 8 := by rw [← hn]; exact hin.1
  clear hg h hin
  refine (callsIn_wide (n := 3)).1 (callsIn_of_wp_marks Try.func7 rfl trivial ?_ rfl)
  simp only [Try.ntmps7, List.size_toArray, List.length_cons, List.length_nil, Nat.reduceAdd, Nat.reduceSub, Array.replicate_succ, Array.replicate_zero, List.push_toArray, List.append_toArray, List.nil_append, List.cons_append]
  gi_wp2_with fail
  obtain ⟨w3, hw3⟩ : ∃ w3, ((w.alloc (.cells #[.slice A n c] 22)).alloc (.cells #[.int .i64 (most : Nat)] 3)).alloc (.cells #[.bool false] 4) = w3 := ⟨_, rfl⟩
  have o3 : Only (fun _ => False) w w3 := by
    rw [← hw3]
    exact (((Only.refl _ w).alloc _).alloc _).alloc _
  have z3 : w3.heap.size = w.heap.size + 3 := by rw [← hw3, World.size_alloc, World.size_alloc, World.size_alloc]
  have i0 : Is w3 w.heap.size 22 [.slice A n c] := by
    rw [← hw3]
    exact ((Is.new w _ _).alloc _).alloc _
  have i1 : Is w3 (w.heap.size + 1) 3 [.int .i64 (most : Nat)] := by
    rw [← hw3]
    exact (Is.new2 w _ _ _).alloc _
  have i2 : Is w3 (w.heap.size + 1 + 1) 4 [.bool false] := by
    rw [← hw3]
    have := Is.new2 (w.alloc (.cells #[.slice A n c] 22)) (.cells #[.int .i64 (most : Nat)] 3) 4 [.bool false]
    rw [World.size_alloc] at this
    exact this
  rw [hw3]
  clear hw3
  refine ⟨trivial, (callsIn_wide.2 (HU.out w3 o3)).mono ?_⟩
  rintro e w4 ⟨A1, c1, rfl, hM⟩
  have HM := Lib.hid hM
  obtain ⟨N, hN⟩ : ∃ N, (unionF (txts rs)).length = N := ⟨_, rfl⟩
  rw [hN] at HM HW hus ⊢
  have o4 := o3.trans hM.2.1
  have j0 := i0.only hM.2.1 fun f => f
  have j1 := i1.only hM.2.1 fun f => f
  have j2 := i2.only hM.2.1 fun f => f
  have z4 : w.heap.size + 3 ≤ w4.heap.size := by rw [← z3]; exact hM.2.1.size
  have d0 := ((j0.alloc (.cells #[.slice A1 N c1] 26)).alloc (.cells #[.int .i64 0] 3)).cell 0 rfl
  have HJ := Lib.hid (And.intro j0 (And.intro j1 j2))
  have HM4 := Lib.hid hM.1.see
  clear hM i0 i1 i2 z3 j0 j1 j2
  gi_wp2_with fail
  obtain ⟨w6, hw6⟩ : ∃ w6, (w4.alloc (.cells #[.slice A1 N c1] 26)).alloc (.cells #[.int .i64 0] 3) = w6 := ⟨_, rfl⟩
  have o46 : Only (fun _ => False) w4 w6 := by
    rw [← hw6]
    exact ((Only.refl _ w4).alloc _).alloc _
  have z6 : w6.heap.size = w4.heap.size + 2 := by rw [← hw6, World.size_alloc, World.size_alloc]
  have i3 : Is w6 w4.heap.size 26 [.slice A1 N c1] := by
    rw [← hw6]
    exact (Is.new w4 _ _).alloc _
  have i4 : Is w6 (w4.heap.size + 1) 3 [.int .i64 0] := by
    rw [← hw6]
    exact Is.new2 w4 _ _ _
  rw [hw6] at d0 ⊢
  clear hw6
  have o6 := o4.trans o46
  refine ⟨trivial, (callsIn_wide.2 (HW.out w6 o6)).mono ?_⟩
  rintro e w7 ⟨⟨gf, lb, rfl, eg, hseq⟩, o7⟩
  have HQ := Lib.hid hseq
  have HE := Lib.hid eg
  have O7 := Lib.hid o7
  clear eg hseq o7
  gi_wp2_with fail
  have hz : w6.heap.size ≤ w7.heap.size := O7.out.size
  have h7 : TI w w4.heap.size A n c most A1 N c1 (unionF (txts rs)) 0 w7 := by
    have k := o46.trans O7.out
    exact ⟨o6.trans O7.out, HJ.out.1.only k fun f => f, HJ.out.2.1.only k fun f => f, HJ.out.2.2.only k fun f => f, i3.only O7.out fun f => f, i4.only O7.out fun f => f, HM4.out.new k⟩
  have HA : Hid (∀ i W1 W2, TI w w4.heap.size A n c most A1 N c1 (unionF (txts rs)) i W1 → Only (fun j => w6.heap.size ≤ j) W1 W2 → TI w w4.heap.size A n c most A1 N c1 (unionF (txts rs)) i W2) := Lib.hid fun i W1 W2 h k => h.later z4 (k.mono fun j q => by omega)
  have H7 := Lib.hid h7
  have HZ6 := Lib.hid z6
  clear z6 h7 i3 i4 d0 HM4 HJ
  refine wpIn_range (I := TI w w4.heap.size A n c most A1 N c1 (unionF (txts rs))) (Ix := fun W => Only (fun _ => False) w W ∧ Is W (w.heap.size + 1 + 1) 4 [.bool true])
    (aft := fun args => ⟨#[.slice A n c, .int .i64 (most : Nat), .pointer (some ⟨w.heap.size, 0, none⟩), .pointer (some ⟨w.heap.size + 1, 0, none⟩), .pointer (some ⟨w.heap.size + 1 + 1, 0, none⟩), .pointer (some ⟨w4.heap.size, 0, none⟩), .pointer (some ⟨w4.heap.size + 1, 0, none⟩), args.getD 0 undef, args.getD 1 undef, undef, undef, .slice A n c, .slice A1 N c1, .slice A n c, .func (.func gf) #[] lb, args.getD 0 undef, args.getD 1 undef, undef, undef, undef, undef, undef, undef, undef, undef, undef, undef, undef, undef, undef, undef, undef, undef, undef, undef, undef, undef, undef, undef, undef, undef, undef, undef, undef, undef, undef, undef, undef, undef, undef, undef, undef, undef, undef, undef, undef, undef, undef, undef, undef, undef], []⟩)
    HQ.out ⟨?assign, ?body, ?done, ?stop⟩ hz rfl HE.out (fun i W args hx => by obtain ⟨_, _, _, rfl, _⟩ := hx; rfl) (fun i W l r o args hx hl => hx.put hl) HA.out (fun W1 W2 h k => ⟨h.1.andThen k fun j q => .inr (by have := HZ6.out; omega), h.2.only k (by have := HZ6.out; omega)⟩) (fun i W h => HK.out W h.1) H7.out
  case assign =>
    rintro l k i W args K ⟨A2, c2, B2, rfl, _⟩ hK
    gi_wp2
    exact hK
  case body =>
    rintro l k i W args hiN hI ⟨A2, c2, B2, rfl, hs⟩
    obtain ⟨g0, g1, g2, g3, g4, g5, g6⟩ := hI
    have hiU : i < (unionF (txts rs)).length := by rw [hN]; exact hiN
    obtain ⟨b1, p1, e1, du⟩ := See.str g6 hiU
    subst e1
    obtain ⟨u, hu⟩ : ∃ u, (unionF (txts rs)).getD i [] = u := ⟨_, rfl⟩
    rw [hu] at du hs
    rw [hu]
    have HG := Lib.hid (And.intro g0 (And.intro g1 (And.intro g2 (And.intro g3 (And.intro g4 (And.intro g5 g6))))))
    have HX := Lib.hid hs
    have dl := g1.cell 0 rfl
    have dw := g4.cell 0 rfl
    have dn := g5.cell 0 rfl
    have q1 : (i : Int) < (N : Int) := by omega
    have q2 : ¬ (N : Int) ≤ (i : Int) := by omega
    have t1 := tx_toList u
    have q3 : (u == u) = true := beq_self_eq_true u
    have HPP := Lib.hid (HP.out W u g0)
    obtain ⟨K, hK⟩ : ∃ K, (placesF (txts rs) u).length = K := ⟨_, rfl⟩
    obtain ⟨pl, hpl⟩ : ∃ pl, placesF (txts rs) u = pl := ⟨_, rfl⟩
    have hK8 : K ≤ 8 := by
      have := places_length (txts rs) u
      rw [List.length_map, hn, hK] at this
      omega
    rw [hpl] at HPP HX hK
    rw [hpl, hK]
    clear hs hpl hu g0 g1 g2 g3 g4 g5 g6
    gi_wp2_with fail
    refine ⟨trivial, (fun h => by cases h), (CallsIn.inRound l (callsIn_wide.2 HPP.out)).mono ?_⟩
    rintro e w2 ⟨A3, c3, rfl, hM⟩
    rw [hK]
    have HX2 := Lib.hid (HX.out.new hM.2.1)
    have HX3 := Lib.hid hM.1.see
    have o2 := hM.2.1
    have HO2 := Lib.hid o2
    have HG2 : Hid (TI w w4.heap.size A n c most (some ⟨b1, p1, none⟩) N c1 (unionF (txts rs)) i w2) := Lib.hid ⟨HG.out.1.trans o2, HG.out.2.1.only o2 fun f => f, HG.out.2.2.1.only o2 fun f => f, HG.out.2.2.2.1.only o2 fun f => f, HG.out.2.2.2.2.1.only o2 fun f => f, HG.out.2.2.2.2.2.1.only o2 fun f => f, HG.out.2.2.2.2.2.2.new o2⟩
    clear hM o2 dl dw dn du HG HX HPP q1 q2 q3 t1
    gi_wp2_with fail
    gi_loopg [39] K (fun gk u wy => ∃ k q, u = .int .i64 (k : Nat) ∧ k + gk = K ∧ wy = w2.drewN q)
    case atStart => exact ⟨0, 0, rfl, by omega, rfl⟩
    case round =>
      obtain ⟨k, q, rfl, hk, rfl⟩ := hrel
      by_cases hlk : k < K
      · have l3 : (k : Int) < (K : Int) := by omega
        have hkp : k < pl.length := by omega
        obtain ⟨b2, p2, e2, _, d2⟩ := HX2.out k _ (ints_at pl k hkp)
        obtain ⟨b3, p3, e3, _, d3⟩ := HX3.out k _ (ints_at pl k hkp)
        subst e2 e3
        generalize ln pl k = v at d2 d3
        gi_wp2_with fail
        refine Steps.regionIn (fun W => W.cell? ⟨b3, p3 + k, none⟩ = some (.int .i64 (v : Nat)) ∧ W.cell? ⟨b2, p2 + k, none⟩ = some (.int .i64 (v : Nat))) [(true, 0), (true, 1), (true, 2), (true, 3), (true, 4), (true, 5), (true, 6), (true, 7), (true, 8)] (by kernel_rfl) (by kernel_rfl) (by kernel_rfl) rfl (by kernel_rfl) ?_
        have HSW := Lib.hid (And.intro d3 d2)
        refine Steps.take (.slice (some ⟨b3, p3, none⟩) K c3) rfl HSW.out (fun W hW => by kernel_rfl) ?_
        simp only [Act.put, List.setIfInBounds_toArray, List.set_cons_succ, List.set_cons_zero]
        refine Steps.take (.int .i64 (k : Nat)) rfl HSW.out (fun W hW => by kernel_rfl) ?_
        simp only [Act.put, List.setIfInBounds_toArray, List.set_cons_succ, List.set_cons_zero]
        refine Steps.take (.pointer (some ⟨b3, p3 + k, none⟩)) rfl HSW.out (fun W hW => by go_simp; first | done | omega) ?_
        simp only [Act.put, List.setIfInBounds_toArray, List.set_cons_succ, List.set_cons_zero]
        refine Steps.take (.int .i64 (v : Nat)) rfl HSW.out (fun W hW => by have c := hW.1; go_simp) ?_
        simp only [Act.put, List.setIfInBounds_toArray, List.set_cons_succ, List.set_cons_zero]
        refine Steps.take (.slice (some ⟨b2, p2, none⟩) K c2) rfl HSW.out (fun W hW => by kernel_rfl) ?_
        simp only [Act.put, List.setIfInBounds_toArray, List.set_cons_succ, List.set_cons_zero]
        refine Steps.take (.int .i64 (k : Nat)) rfl HSW.out (fun W hW => by kernel_rfl) ?_
        simp only [Act.put, List.setIfInBounds_toArray, List.set_cons_succ, List.set_cons_zero]
        refine Steps.take (.pointer (some ⟨b2, p2 + k, none⟩)) rfl HSW.out (fun W hW => by go_simp; first | done | omega) ?_
        simp only [Act.put, List.setIfInBounds_toArray, List.set_cons_succ, List.set_cons_zero]
        refine Steps.take (.int .i64 (v : Nat)) rfl HSW.out (fun W hW => by have c := hW.2; go_simp) ?_
        simp only [Act.put, List.setIfInBounds_toArray, List.set_cons_succ, List.set_cons_zero]
        refine Steps.take (.bool false) rfl HSW.out (fun W hW => by go_simp) ?_
        simp only [Act.put, List.setIfInBounds_toArray, List.set_cons_succ, List.set_cons_zero]
        show wpList _ _ _ _ _ _
        refine ⟨rfl, ?_⟩
        have hk9 : k < 100 := by omega
        gi_wp2_with fail
        go_roundg (gk - 1)
        case measure => omega
        case rel => exact ⟨k + 1, q + 1, by go_num, by omega, rfl⟩
      · have hkk : K = k := by omega
        subst hkk
        have HZ : Hid (Only (fun _ => False) w2 (w2.drewN q)) := Lib.hid ((Only.refl _ w2).drewN q)
        generalize w2.drewN q = wz at HZ ⊢
        have HG3 : Hid (TI w w4.heap.size A n c most (some ⟨b1, p1, none⟩) N c1 (unionF (txts rs)) i wz) := Lib.hid (HG2.out.same HZ.out)
        have OT : Hid (Only (fun j => w.heap.size ≤ j ∧ j < w6.heap.size) W wz) := Lib.hid ((HO2.out.mono fun _ f => f.elim).trans (HZ.out.mono fun _ f => f.elim))
        have HN1 : Hid (∀ v, v = .int .i64 ((i + 1 : Nat) : Int) → TI w w4.heap.size A n c most (some ⟨b1, p1, none⟩) N c1 (unionF (txts rs)) (i + 1) (wz.setCell ⟨w4.heap.size + 1, 0, none⟩ v) ∧ Only (fun j => w.heap.size ≤ j ∧ j < w6.heap.size) W (wz.setCell ⟨w4.heap.size + 1, 0, none⟩ v)) := Lib.hid fun v hv => ⟨hv ▸ HG3.out.next z4, OT.out.set (.inl ⟨by show _ ≤ w4.heap.size + 1; omega, by have := HZ6.out; show w4.heap.size + 1 < _; omega⟩) v⟩
        have dn := HG3.out.2.2.2.2.2.1.cell 0 rfl
        have fn := HG3.out.2.2.2.2.2.1.frozen 0
        have dm : ∀ v, (wz.setCell ⟨w4.heap.size + 1, 0, none⟩ v).cell? ⟨w.heap.size + 1, 0, none⟩ = some (.int .i64 (most : Nat)) := fun v => (HG3.out.2.2.1.far (by show w.heap.size + 1 ≠ w4.heap.size + 1; omega) v).cell 0 rfl
        have dr : ∀ v, (wz.setCell ⟨w4.heap.size + 1, 0, none⟩ v).cell? ⟨w.heap.size + 1 + 1, 0, none⟩ = some (.bool false) := fun v => (HG3.out.2.2.2.1.far (by show w.heap.size + 1 + 1 ≠ w4.heap.size + 1; omega) v).cell 0 rfl
        have fr : ∀ v, (wz.setCell ⟨w4.heap.size + 1, 0, none⟩ v).frozen? ⟨w.heap.size + 1 + 1, 0, none⟩ = false := fun v => (HG3.out.2.2.2.1.far (by show w.heap.size + 1 + 1 ≠ w4.heap.size + 1; omega) v).frozen 0
        have hi9 : i < 1000 := by omega
        by_cases hq : most < i + 1
        · have hq2 : (most : Int) < (i : Int) + 1 := by omega
          gi_wp2_with fail
          obtain ⟨k1, k2⟩ := HN1.out (.int .i64 ((i : Int) + 1)) (by rw [Int.natCast_add]; rfl)
          exact ⟨⟨k1.1.set (.inr (by show _ ≤ w.heap.size + 1 + 1; omega)) _, k1.2.2.2.1.set 0 _⟩, k2.set (.inl ⟨by show _ ≤ w.heap.size + 1 + 1; omega, by have := HZ6.out; show w.heap.size + 1 + 1 < _; omega⟩) _⟩
        · have hq2 : ¬ (most : Int) < (i : Int) + 1 := by omega
          gi_wp2_with fail
          exact HN1.out (.int .i64 ((i : Int) + 1)) (by rw [Int.natCast_add]; rfl)
  case done =>
    intro D W hD hK hI
    have HI := Lib.hid hI
    have dw := hI.2.2.2.2.1.cell 0 rfl
    have dn := hI.2.2.2.2.2.1.cell 0 rfl
    have dr := hI.2.2.2.1.cell 0 rfl
    have fr := hI.2.2.2.1.frozen 0
    have HKD := Lib.hid hK
    have HDD : Hid (w.heap.size + 3 ≤ D) := Lib.hid (by have := HZ6.out; omega)
    clear hI hK hD
    gi_wp2_with fail
    have e1 : (W.setCell ⟨w.heap.size + 1 + 1, 0, none⟩ (.bool true)).heap[D]? = some (.deferred (some [])) := (Below.heap_setCell _ _ _ _ (by have := HDD.out; show D ≠ w.heap.size + 1 + 1; omega)).trans HKD.out
    have c1 := cell_put (D := D) (o := .deferred none) (by have := HDD.out; omega) ((HI.out.2.2.2.1.set 0 (.bool true)).cell 0 rfl)
    refine ⟨by simp, .inl ⟨_, _, rfl, run_takeDeferred e1, .bool true, ?_, rfl, ?_⟩⟩
    · simp [results, Try.f7, go_sem, c1]
    · exact (HI.out.1.set (.inr (by show _ ≤ w.heap.size + 1 + 1; omega)) _).andThen (only_put _ D _) (by rintro j rfl; right; have := HDD.out; omega)
  case stop =>
    intro D W hD hK hI
    have HI := Lib.hid hI
    have HKD := Lib.hid hK
    have HDD : Hid (w.heap.size + 3 ≤ D) := Lib.hid (by have := HZ6.out; omega)
    clear hI hK hD
    gi_wp2_with fail
    have c1 := cell_put (D := D) (o := .deferred none) (by have := HDD.out; omega) (HI.out.2.cell 0 rfl)
    refine ⟨by simp, .inl ⟨_, _, rfl, run_takeDeferred HKD.out, .bool true, ?_, rfl, ?_⟩⟩
    · simp [results, Try.f7, go_sem, c1]
    · exact HI.out.1.andThen (only_put _ D _) (by rintro j rfl; right; have := HDD.out; omega)
end Go.Proofs.Ytmdfkchgklphlaa
