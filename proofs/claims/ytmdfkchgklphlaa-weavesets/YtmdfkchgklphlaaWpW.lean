/- Layer 16, the program: what goes over the seats, text by text, is an iterator as the document's loop wants it. -/
import Derived.Test.YtmdfkchgklphlaaWpU
import Derived.Test.YtmdfkchgklphlaaGRangeA
import Derived.Shelf.Abstract
import Derived.Shelf.RegionOpen
import Derived.WalkKit
import Derived.OwnWalkIn
import Derived.TacticsInMore
import Derived.LoopNIn
import Derived.LoopIn
import Derived.Sort.LoopGhostIn
namespace Go.Proofs.Ytmdfkchgklphlaa
open Go.RowKit Go.Shelf

attribute [local go_sem] Oper.semAt_some

theorem only_belowW {w w' : World} (h : Below w.heap.size w w') : Only (fun _ => False) w w' := ⟨h.os, h.tape, h.output, h.size, fun i hi _ => h.block i hi⟩
/-- What stands between two rounds: what is left to tell. -/
def Rest (rows : List (List (List UInt8))) (B hi top : Nat) (i n : Nat) (A : Option Addr) (c : Nat) (W : World) : Prop :=
  See W B A (seaC (seatsW rows ((unionF rows).drop i))) ∧ (∀ j, Lies A j → hi ≤ j) ∧ n = (seatsW rows ((unionF rows).drop i)).length ∧ n ≤ c ∧ top ≤ W.heap.size
theorem Rest.keep {rows : List (List (List UInt8))} {B hi top i n : Nat} {A : Option Addr} {c : Nat} {W W2 : World} {X : Nat → Prop} (h : Rest rows B hi top i n A c W) (k : Only X W W2) (hd : ∀ j, hi ≤ j → j < B → ¬ X j) : Rest rows B hi top i n A c W2 :=
  ⟨h.1.apart h.2.1 k hd, h.2.1, h.2.2.1, h.2.2.2.1, Nat.le_trans h.2.2.2.2 k.size⟩
theorem Rest.parts {rows : List (List (List UInt8))} {B hi top i n : Nat} {A : Option Addr} {c : Nat} {W : World} (h : Rest rows B hi top i n A c W) (hiU : i < (unionF rows).length) :
    0 < (placesF rows ((unionF rows).getD i [])).length ∧ (placesF rows ((unionF rows).getD i [])).length ≤ n ∧ (∀ j, j < (placesF rows ((unionF rows).getD i [])).length → ((seatsW rows ((unionF rows).drop i)).getD j sea0).1 = (unionF rows).getD i []) ∧
    ((placesF rows ((unionF rows).getD i [])).length < n → ((seatsW rows ((unionF rows).drop i)).getD (placesF rows ((unionF rows).getD i [])).length sea0).1 ≠ (unionF rows).getD i []) ∧
    (seatsW rows ((unionF rows).drop i)).take (placesF rows ((unionF rows).getD i [])).length = seatsU rows ((unionF rows).getD i []) := by
  have e := seatsW_next rows (unionF rows) i hiU
  have hl := seatsU_length rows ((unionF rows).getD i [])
  refine ⟨places_some (getD_in [] _ i hiU), ?_, fun j hj => ?_, fun hlt => ?_, ?_⟩
  · rw [h.2.2.1, e, List.length_append, hl]
    exact Nat.le_add_right _ _
  · rw [e, List.getD_eq_getElem?_getD, List.getElem?_append_left (by rw [hl]; exact hj)]
    unfold seatsU
    rw [List.getElem?_map, List.getElem?_eq_getElem hj]
    rfl
  · have hlen : n = (placesF rows ((unionF rows).getD i [])).length + (seatsW rows ((unionF rows).drop (i + 1))).length := by rw [h.2.2.1, e, List.length_append, hl]
    rw [e, List.getD_eq_getElem?_getD, List.getElem?_append_right (by rw [hl]; exact Nat.le_refl _), hl, Nat.sub_self, List.getElem?_eq_getElem (by omega)]
    exact seatsW_other (union_rise rows) hiU (List.getElem_mem _)
  · rw [e, ← hl]
    exact List.take_left
/-- The next round's. -/
theorem Rest.next {rows : List (List (List UInt8))} {B hi top i n b o : Nat} {c : Nat} {W : World} (h : Rest rows B hi top i n (some ⟨b, o, none⟩) c W) (hiU : i < (unionF rows).length) (K : Nat) (hK : (placesF rows ((unionF rows).getD i [])).length = K) :
    Rest rows B hi top (i + 1) (n - K) (some ⟨b, o + K * 2, none⟩) (c - K) W ∧ (c = K → Rest rows B hi top (i + 1) (n - K) (some ⟨b, o, none⟩) (c - K) W) := by
  have hp := h.parts hiU
  rw [hK] at hp
  have e := seatsW_next rows (unionF rows) i hiU
  have hl := seatsU_length rows ((unionF rows).getD i [])
  rw [hK] at hl
  have hlen : n = K + (seatsW rows ((unionF rows).drop (i + 1))).length := by rw [h.2.2.1, e, List.length_append, hl]
  have hc := h.2.2.2.1
  have ed : (seatsW rows ((unionF rows).drop i)).drop K = seatsW rows ((unionF rows).drop (i + 1)) := by
    rw [e, ← hl]
    exact List.drop_left
  refine ⟨⟨?_, fun j hj => ?_, by omega, by omega, h.2.2.2.2⟩, fun hcK => ⟨fun k v hv => ?_, h.2.1, by omega, by omega, h.2.2.2.2⟩⟩
  · have := h.1.from (K * 2)
    rw [seaC_drop, ed] at this
    exact this
  · obtain ⟨ad, e1, e2⟩ := hj
    obtain rfl := Option.some.inj e1
    exact h.2.1 j ⟨_, rfl, e2⟩
  · have : seatsW rows ((unionF rows).drop (i + 1)) = [] := List.eq_nil_of_length_eq_zero (by omega)
    rw [this] at hv
    cases hv

set_option maxRecDepth 100000 in
set_option maxHeartbeats 8000000 in
theorem piter (rs : List TRow) (A0 : Option Addr) (N c b0 hi : Nat) (wv : World) (hbox : Is wv b0 37 [.slice A0 N c]) (hrest : Rest (txts rs) wv.heap.size hi wv.heap.size 0 N A0 c wv) (hN : N ≤ 1000000) (hc : c ≤ maxLen) :
    SeqA Try.prog 16 #[.pointer (some ⟨b0, 0, none⟩)] (unionF (txts rs)).length (RoundX rs) hi wv := by
  intro l m J Jx W hbel hJ hJx hY h0
  have hbelO : Only (fun _ => False) wv W := only_belowW hbel
  have HR0 : Hid (Rest (txts rs) wv.heap.size hi wv.heap.size 0 N A0 c W) := Lib.hid (hrest.keep hbelO fun _ _ _ f => f)
  have d0 := (hbox.only hbelO fun f => f).cell 0 rfl
  have HJ := Lib.hid hJ
  have HY := Lib.hid hY
  have H0 := Lib.hid h0
  have HTOP := Lib.hid hbelO.size
  clear hJ hJx hY h0 hrest hbox hbelO hbel
  refine callsIn_of_wp Try.func16 rfl trivial ?_ rfl
  simp only [Try.ntmps16, List.size_toArray, List.length_cons, List.length_nil, Nat.reduceAdd, Nat.reduceSub, Array.replicate_succ, Array.replicate_zero, List.push_toArray, List.append_toArray, List.nil_append, List.cons_append]
  gi_wp2_with fail
  gi_loopg [3] (unionF (txts rs)).length (fun gk v wx => ∃ (i n c1 : Nat) (A : Option Addr), v = .slice A n c1 ∧ i + gk = (unionF (txts rs)).length ∧ n ≤ N ∧ c1 ≤ maxLen ∧ Hid (J i wx ∧ Rest (txts rs) wv.heap.size hi wv.heap.size i n A c1 wx ∧ W.heap.size ≤ wx.heap.size))
  case atStart => exact ⟨0, N, c, A0, rfl, by omega, Nat.le_refl _, hc, Lib.hid ⟨H0.out, HR0.out, Nat.le_refl _⟩⟩
  case round =>
    obtain ⟨i, n, c1, A, rfl, hi2, hnN, hc1, HI⟩ := hrel
    by_cases hlt : i < (unionF (txts rs)).length
    · have hp := HI.out.2.1.parts hlt
      obtain ⟨b, o, rfl, dx, _⟩ := see_sea HI.out.2.1.1 (i := 0) (by rw [← HI.out.2.1.2.2.1]; omega)
      rw [hp.2.2.1 0 hp.1, Nat.zero_mul, Nat.add_zero] at dx
      have HLT := Lib.hid hlt
      have hcn := HI.out.2.1.2.2.2.1
      obtain ⟨K, hK⟩ : ∃ K, (placesF (txts rs) ((unionF (txts rs)).getD i [])).length = K := ⟨_, rfl⟩
      rw [hK] at hp
      have HNX := Lib.hid (HI.out.2.1.next hlt K hK)
      have HSA : Hid (∀ q, Calls Try.prog 17 #[.slice (some ⟨b, o, none⟩) n c1] (wr.drewN q) fun e w' => e = .returned (.int .i64 (K : Nat)) ∧ ∃ q2, w' = (wr.drewN q).drewN q2) := Lib.hid fun q => psame _ n c1 _ _ _ K (wr.drewN q) (HI.out.2.1.1.new ((Only.refl _ wr).drewN q)) HI.out.2.1.2.2.1.symm (by omega) hp.1 hp.2.1 hp.2.2.1 hp.2.2.2.1
      have HPL : Hid (∀ W1, Only (fun _ => False) wr W1 → Calls Try.prog 18 #[.slice (some ⟨b, o, none⟩) K c1] W1 fun e w' => e = .returned (.slice (some ⟨W1.heap.size, 0, none⟩) K K) ∧ See w' w'.heap.size (some ⟨W1.heap.size, 0, none⟩) (ints (placesF (txts rs) ((unionF (txts rs)).getD i []))) ∧ Only (fun _ => False) W1 w') := Lib.hid fun W1 o1 => by
        have h1 := (HI.out.2.1.1.new o1).head (K * 2)
        rw [seaC_take, hp.2.2.2.2] at h1
        have h2 := pplaces _ K c1 _ _ W1 h1 (by rw [seatsU_length, hK]) (by omega)
        have e : (seatsU (txts rs) ((unionF (txts rs)).getD i [])).map (·.2) = placesF (txts rs) ((unionF (txts rs)).getD i []) := by
          unfold seatsU
          rw [List.map_map]
          exact List.map_id _
        rw [e] at h2
        exact h2
      have hK0 := hp.1
      have hKn := hp.2.1
      have HRX : Hid (∀ W1 B A2 c2, See W1 B A2 (ints (placesF (txts rs) ((unionF (txts rs)).getD i []))) → RoundX rs i W1 #[.string (tx ((unionF (txts rs)).getD i [])), .slice A2 K c2]) := Lib.hid fun W1 B A2 c2 h => ⟨A2, c2, B, by rw [hK], h⟩
      clear hp
      generalize (unionF (txts rs)).getD i [] = u at *
      have HK2 := Lib.hid hK
      have hn1 : (0 : Int) < (n : Int) := by omega
      have hKc : (K : Int) ≤ (c1 : Int) := by omega
      have hKn2 : (K : Int) ≤ (n : Int) := by omega
      have dxq : ∀ q, (wr.drewN q).cell? ⟨b, o, none⟩ = some (.string (tx u)) := fun _ => dx
      clear hK dx d0
      gi_wp2_with fail
      refine wpIn_wide.2 (Steps.region (fun W1 => ∃ q, W1 = wr.drewN q) [(true, 0), (true, 1), (true, 2), (true, 3), (true, 4), (false, 5), (true, 6), (true, 7)] (by kernel_rfl) (by kernel_rfl) rfl (by kernel_rfl) (fun _ _ d _ _ h => by cases d <;> exact h) ?_)
      have hS : ∃ q, wr.drew = wr.drewN q := ⟨1, rfl⟩
      refine Steps.take (.slice (some ⟨b, o, none⟩) n c1) rfl hS (fun W1 hW => by kernel_rfl) ?_
      simp only [Act.put, List.setIfInBounds_toArray, List.set_cons_succ, List.set_cons_zero]
      refine Steps.take (.pointer (some ⟨b, o, none⟩)) rfl hS (fun W1 hW => by go_simp) ?_
      simp only [Act.put, List.setIfInBounds_toArray, List.set_cons_succ, List.set_cons_zero]
      refine Steps.take (.pointer (some ⟨b, o, none⟩)) rfl hS (fun W1 hW => by kernel_rfl) ?_
      simp only [Act.put, List.setIfInBounds_toArray, List.set_cons_succ, List.set_cons_zero]
      refine Steps.take (.string (tx u)) rfl hS (fun W1 hW => by obtain ⟨q, rfl⟩ := hW; go_simp) ?_
      simp only [Act.put, List.setIfInBounds_toArray, List.set_cons_succ, List.set_cons_zero]
      refine Steps.take (.slice (some ⟨b, o, none⟩) n c1) rfl hS (fun W1 hW => by kernel_rfl) ?_
      simp only [Act.put, List.setIfInBounds_toArray, List.set_cons_succ, List.set_cons_zero]
      refine Steps.call 17 #[.slice (some ⟨b, o, none⟩) n c1] rfl (by kernel_rfl) ((HSA.out 1).mono ?_)
      rintro e w3 ⟨rfl, q2, hw3⟩
      rw [World.drewN_drewN] at hw3
      have hS3 : ∃ q, w3 = wr.drewN q := ⟨_, hw3⟩
      refine ⟨_, rfl, hS3, ?_⟩
      simp only [Act.put, List.setIfInBounds_toArray, List.set_cons_succ, List.set_cons_zero]
      refine Steps.take (.string (tx u)) rfl hS3 (fun W1 hW => by kernel_rfl) ?_
      simp only [Act.put, List.setIfInBounds_toArray, List.set_cons_succ, List.set_cons_zero]
      refine Steps.take (.int .i64 (K : Nat)) rfl hS3 (fun W1 hW => by kernel_rfl) ?_
      simp only [Act.put, List.setIfInBounds_toArray, List.set_cons_succ, List.set_cons_zero]
      show wpList _ _ _ _ _ _
      have o3 : Only (fun _ => False) wr w3 := by
        rw [hw3]
        exact (Only.refl _ wr).drewN _
      have HI3 : Hid (J i w3) := Lib.hid (HJ.out i wr w3 HI.out.1 o3)
      have HN3 := Lib.hid (show Only (fun _ => False) wr w3 from o3)
      have HP3 := Lib.hid (HPL.out w3 o3)
      clear hS hS3 hw3 dxq HSA HPL o3
      show Exit.then _ _ Exit.normal _ _
      gi_wp2_with fail
      refine ⟨trivial, (fun h => by cases h), (callsIn_wide.2 HP3.out).mono ?_⟩
      rintro e w4 ⟨rfl, hs4, o4⟩
      have o34 := HN3.out.trans o4
      have HJ4 : J i w4 := HJ.out i w3 w4 HI3.out o4
      have HR4 : Hid (W.heap.size ≤ w4.heap.size) := Lib.hid (Nat.le_trans HI.out.2.2 o34.size)
      have HN4 : Hid (Rest (txts rs) wv.heap.size hi wv.heap.size (i + 1) (n - K) (some ⟨b, o + K * 2, none⟩) (c1 - K) w4 ∧ (c1 = K → Rest (txts rs) wv.heap.size hi wv.heap.size (i + 1) (n - K) (some ⟨b, o, none⟩) (c1 - K) w4)) := Lib.hid ⟨HNX.out.1.keep o34 fun _ _ _ f => f, fun h => (HNX.out.2 h).keep o34 fun _ _ _ f => f⟩
      obtain ⟨fn, tmps, assign, body, hy, hR⟩ := HY.out i w4 _ (m - 1) HLT.out HJ4 (HRX.out w4 _ _ K hs4)
      have HRR := Lib.hid hR
      clear hs4 o4 o34 HJ4 hR HP3 HI3 HN3
      gi_wp2_with fail
      refine ⟨(fun h => by cases h), HRR.out.mono ?_⟩
      rintro e w5 (⟨rfl, hJ5, o5⟩ | ⟨rfl, hx5⟩)
      · have HJ5 := Lib.hid hJ5
        have hfar : ∀ j, hi ≤ j → j < wv.heap.size → ¬ (j < hi ∨ wv.heap.size ≤ j) := fun j h1 h2 h => by omega
        have HN5 : Hid (Rest (txts rs) wv.heap.size hi wv.heap.size (i + 1) (n - K) (some ⟨b, o + K * 2, none⟩) (c1 - K) w5 ∧ (c1 = K → Rest (txts rs) wv.heap.size hi wv.heap.size (i + 1) (n - K) (some ⟨b, o, none⟩) (c1 - K) w5)) := Lib.hid ⟨HN4.out.1.keep o5 hfar, fun h => (HN4.out.2 h).keep o5 hfar⟩
        have HR5 : Hid (W.heap.size ≤ w5.heap.size) := Lib.hid (Nat.le_trans HR4.out o5.size)
        clear hJ5 o5 hfar HN4 HR4 HRR hy
        by_cases hcK : c1 = K
        · have hR5 := HN5.out.2 hcK
          rw [show c1 - K = 0 by omega] at hR5
          have HR6 := Lib.hid hR5
          clear hR5
          gi_wp2_with fail
          gi_roundg (gk - 1)
          case measure => omega
          case rel => exact ⟨i + 1, n - K, 0, _, rfl, by omega, by omega, by omega, Lib.hid ⟨HJ5.out, HR6.out, HR5.out⟩⟩
        · have hR5 := HN5.out.1
          gi_wp2_with fail
          gi_roundg (gk - 1)
          case measure => omega
          case rel => exact ⟨i + 1, n - K, c1 - K, _, rfl, by omega, by omega, by omega, Lib.hid ⟨HJ5.out, hR5, HR5.out⟩⟩
      · have HX5 := Lib.hid hx5
        clear hx5
        gi_wp2
        (try simp only [Exit.inBlock, Exit.then])
        refine bodyPost_ret (results_none rfl _ _ _) rfl ?_
        exact ⟨⟨_, rfl⟩, .inr HX5.out⟩
    · obtain rfl : i = (unionF (txts rs)).length := by omega
      have hn0 : n = 0 := by
        rw [HI.out.2.1.2.2.1, List.drop_length]
        rfl
      subst hn0
      gi_wp2_with fail
      go_end0
      exact ⟨⟨_, rfl⟩, .inl HI.out.1⟩
theorem seatsW_few (rows : List (List (List UInt8))) : ∀ U : List (List UInt8), (seatsW rows U).length ≤ U.length * rows.length
  | [] => Nat.zero_le _
  | u :: U => by
    have ih := seatsW_few rows U
    have h := places_length rows u
    have e : seatsW rows (u :: U) = seatsU rows u ++ seatsW rows U := rfl
    rw [e, List.length_append, seatsU_length, List.length_cons, Nat.add_mul, Nat.one_mul]
    omega
theorem union_few {rs : List TRow} (h : smallW rs) : (unionF (txts rs)).length ≤ 160 := by
  have h1 := union_length (txts rs)
  have h2 : ∀ l : List (List (List UInt8)), (∀ r ∈ l, r.length ≤ 20) → totalF l ≤ l.length * 20 := fun l => by
    induction l with
    | nil => exact fun _ => Nat.zero_le _
    | cons r l ih =>
      intro h
      have h1 := ih fun q hq => h q (List.mem_cons_of_mem _ hq)
      have h0 := h r List.mem_cons_self
      have e : totalF (r :: l) = r.length + totalF l := by simp [totalF]
      rw [e, List.length_cons, Nat.add_mul, Nat.one_mul]
      omega
  have h3 := h2 (txts rs) fun r hr => by
    obtain ⟨q, hq, rfl⟩ := List.mem_map.1 hr
    exact (h.2 q hq).1
  rw [List.length_map] at h3
  have h4 := h.1
  omega

set_option maxHeartbeats 4000000 in
/-- Weave. -/
theorem pweave (A : Option Addr) (n c B : Nat) (rs : List TRow) (w : World) (h : Rows2 w B A rs) (hn : rs.length = n) (hin : smallW rs) : Calls Try.prog 12 #[.slice A n c] w fun e w' =>
    (∃ gf lb, e = .returned (.func (.func gf) #[] lb) ∧ (∀ args w, (callFunc gf args).run Try.prog w = .ok (.enter gf args) w) ∧ SeqA Try.prog gf lb (unionF (txts rs)).length (RoundX rs) w.heap.size w') ∧ Only (fun _ => False) w w' := by
  have HSE := Lib.hid (pseats A n c B rs w h hn hin)
  have HFEW : Hid ((seatsW (txts rs) (unionF (txts rs))).length ≤ 1000000) := Lib.hid (by
    have h1 := seatsW_few (txts rs) (unionF (txts rs))
    have h2 := union_few hin
    have h3 : (txts rs).length ≤ 8 := by rw [List.length_map]; exact hin.1
    have h4 : (unionF (txts rs)).length * (txts rs).length ≤ 160 * 8 := Nat.mul_le_mul h2 h3
    omega)
  clear h hn hin
  go_enter Try.func12, Try.ntmps12
  go_wp2_with fail
  refine HSE.out.mono ?_
  rintro e w1 ⟨A1, c1, rfl, hM⟩
  obtain ⟨N, hN⟩ : ∃ N, (seatsW (txts rs) (unionF (txts rs))).length = N := ⟨_, rfl⟩
  rw [hN] at hM HFEW ⊢
  have HM := Lib.hid hM
  have HN := Lib.hid hN
  clear hM hN HSE
  go_wp2_with fail
  go_ret
  obtain ⟨hrow, hon, hli⟩ := HM.out
  obtain ⟨wv, hwv⟩ : ∃ wv, w1.alloc (.cells #[.slice A1 N c1] 37) = wv := ⟨_, rfl⟩
  have hbox : Is wv w1.heap.size 37 [.slice A1 N c1] := hwv ▸ Is.new w1 37 [.slice A1 N c1]
  have ho : Only (fun _ => False) w1 wv := hwv ▸ ((Only.refl (fun _ => False) w1).alloc _)
  rw [hwv]
  refine ⟨⟨_, _, rfl, enters_of Try.func16 (by kernel_rfl) rfl, piter rs A1 N c1 w1.heap.size w.heap.size wv hbox ⟨?_, hli, ?_, hrow.cap.1, Nat.le_refl _⟩ HFEW.out hrow.cap.2⟩, hon.trans ho⟩
  · rw [List.drop_zero]
    exact (hrow.see.new ho).more ho.size
  · rw [List.drop_zero]
    exact HN.out.symm
end Go.Proofs.Ytmdfkchgklphlaa
