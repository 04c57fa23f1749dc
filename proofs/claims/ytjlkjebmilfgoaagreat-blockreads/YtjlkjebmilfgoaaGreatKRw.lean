/- Layers 8 and 11: whatever blocks are written one behind the other, the stream says what they say: the law. -/
import Derived.Test.YtjlkjebmilfgoaaGreatKRa
import Derived.Test.YtjlkjebmilfgoaaGreatKBits
import Derived.Test.YtjlkjebmilfgoaaGreatTToks
import Derived.Deep.CutBlock
namespace Go.Proofs.YtjlkjebmilfgoaaGreat
open Go.RowKit

/-- Behind the writing of a block. -/
structure Put11 (w : World) (b n j : Nat) (Ak : Option Addr) (ck : Nat) (bl out : List UInt8) (ks : List Nat) (q : PcM) (M g : Nat) (S2 : ByteArray) (wx : World) : Prop where
  at_ : LAt w b (pcBits bl ⟨M, q.S, q.ts⟩ (decide ((j : Int) = (n : Int) - 1))) (fun x => Lies Ak x ∨ x = g) wx
  ok : PcOk ⟨M, q.S, q.ts⟩ S2.data.toList
  len : S2.size ≤ 3000
  row : Row 3 wx Ak j ck (ints ks)
  box : Is wx g 24 (pcc q)
set_option maxRecDepth 100000 in
set_option maxHeartbeats 16000000 in
theorem reads11 (A : Option Addr) (n c : Nat) (ps : List PcM) (w : World) (hn : ps.length = n)
    (hp : ∀ (i : Nat) (q : PcM), ps[i]? = some q → q.k < 256 ∧ q.ts.length = q.n ∧ See w w.heap.size q.A (tks q.ts) ∧ ∃ b off, A = some ⟨b, off, none⟩ ∧ b < w.heap.size ∧
      w.cell? ⟨b, off + i * 3, none⟩ = some (.int .u8 q.k) ∧ w.cell? ⟨b, off + i * 3 + 1, none⟩ = some (.string q.S) ∧ w.cell? ⟨b, off + i * 3 + 2, none⟩ = some (.slice q.A q.n q.c)) :
    Calls Tryz.prog 4 #[.slice A n c] w (YesK w) := by
  have HP := Lib.hid hp
  have HN := Lib.hid hn
  have HA := Lib.hid (awake11 w)
  clear hp hn
  go_enter Tryz.func4, Tryz.ntmps4
  go_wp2_with fail
  refine HA.out.mono ?_
  rintro e w1 ⟨rfl, o1⟩
  have HO1 := Lib.hid o1
  clear o1 HA
  by_cases h0 : n = 0
  · have d0 : (n : Int) = 0 := by omega
    go_wp2
    go_ret
    exact ⟨rfl, HO1.out⟩
  have d0 : ¬ (n : Int) = 0 := by omega
  have d0b : ((n : Int) == 0) = false := by rw [beq_eq_false_iff_ne]; exact d0
  by_cases h6 : 6 < n
  · have d1 : (6 : Int) < (n : Int) := by omega
    go_wp2
    go_ret
    exact ⟨rfl, HO1.out⟩
  have h6n : n ≤ 6 := by omega
  have d1 : ¬ (6 : Int) < (n : Int) := by omega
  have HNW := Lib.hid (newWf w1)
  go_wp2_with fail
  refine HNW.out.mono ?_
  rintro e w2 ⟨rfl, f2, o2⟩
  obtain ⟨b, hb⟩ : ∃ b, w1.heap.size = b := ⟨_, rfl⟩
  rw [hb] at f2 ⊢
  have HL2 : Hid (LAt w b [] (Lies none) w2) := Lib.hid ⟨⟨_, f2, fun q hq => by have := HO1.out.size; rw [hq, ← hb]; exact this, fun q hq => by obtain ⟨_, e, _⟩ := hq; cases e⟩, HO1.out.trans o2⟩
  have HS2 : Hid (Say11 n 0 [] [] []) := Lib.hid (Say11.start (by omega))
  have HR2 : Hid (Row 3 w2 none 0 0 (ints [])) := Lib.hid (Row.nil 3 w2)
  clear f2 o2 HNW hb HO1 d0 d0b d1 h0 h6
  go_wp2_with fail
  go_loopg [4, 5, 30] n (fun gk v4 v5 v30 wx => ∃ (j : Nat) (Ak : Option Addr) (ck : Nat) (bl : List UInt8) (W : ByteArray) (ks : List Nat), v30 = .int .i64 j ∧ v4 = .string W ∧ v5 = .slice Ak j ck ∧ j + gk ≤ n ∧ n ≤ j + gk ∧ W.size ≤ 3000 * j ∧ Hid (LAt w b bl (Lies Ak) wx) ∧ Hid (Row 3 wx Ak j ck (ints ks)) ∧ Hid (∀ q, Lies Ak q → w.heap.size ≤ q) ∧ Hid (Say11 n j bl W.data.toList ks))
  case atStart => exact ⟨0, none, 0, [], ⟨#[]⟩, [], rfl, rfl, rfl, by omega, by omega, by decide, HL2, HR2, Lib.hid (fun q hq => by obtain ⟨_, e, _⟩ := hq; cases e), HS2⟩
  case round =>
    clear HL2 HS2 HR2
    obtain ⟨j, Ak, ck, bl, W, ks, rfl, rfl, rfl, hg1, hg2, hW, HL, HR, HF, HS⟩ := hrel
    by_cases hlt : j < n
    · obtain ⟨q, hq⟩ : ∃ q, ps[j]? = some q := ⟨ps[j]'(by rw [HN.out]; exact hlt), by simp [HN.out, hlt]⟩
      obtain ⟨hk, hqn, hsee, b0, off, hA, hb0, c0, c1, c2⟩ := HP.out j q hq
      subst hA
      have c0 := HL.out.only.cell c0 fun f => f
      have c1 := HL.out.only.cell c1 fun f => f
      have c2 := HL.out.only.cell c2 fun f => f
      have HQN := Lib.hid hqn
      have HQS := Lib.hid hsee
      clear hq hsee hb0 hqn
      obtain ⟨k, S, qA, m, qc, ts⟩ := q
      simp only at hk HQN HQS c0 c1 c2
      obtain ⟨y, hy⟩ : ∃ y, S.size = y := ⟨_, rfl⟩
      go_upto_region 11 with fail
      obtain ⟨wa, hwa⟩ : ∃ wa, wr.alloc (.cells #[.int .u8 k, .string S, .slice qA m qc] 24) = wa := ⟨_, rfl⟩
      obtain ⟨g, hg⟩ : ∃ g, wr.heap.size = g := ⟨_, rfl⟩
      have hIa : Is wa g 24 (pcc ⟨k, S, qA, m, qc, ts⟩) := by rw [← hwa, ← hg]; exact Is.new wr 24 _
      have oa : Only (fun _ => False) wr wa := by rw [← hwa]; exact (Only.refl _ wr).alloc _
      have HLa : Hid (LAt w b bl (fun x => Lies Ak x ∨ x = g) wa) := Lib.hid (HL.out.add oa fun x hx => hx.imp id fun e => by omega)
      have HRa : Hid (Row 3 wa Ak j ck (ints ks)) := Lib.hid (HR.out.only oa fun _ _ f => f)
      have HGX : Hid (w.heap.size ≤ g ∧ g < wa.heap.size) := Lib.hid ⟨by rw [← hg]; exact HL.out.only.size, by rw [← hg, ← hwa]; simp⟩
      have HXa : Hid (∀ x, (Lies Ak x ∨ x = g) → x < wa.heap.size) := Lib.hid fun x hx => by
        rcases hx with e | e
        · exact HRa.out.lies x e
        · rw [e]; exact HGX.out.2
      have ca1 := hIa.cell 1 rfl
      have ca2 := hIa.cell 2 rfl
      have HIa := Lib.hid hIa
      rw [hwa, hg]
      clear hwa hg hIa oa HL HR c0 c1 c2
      by_cases h40 : 40 < m
      · have e40 : (40 : Int) < (m : Int) := by omega
        go_wp2
        go_ret
        exact ⟨rfl, HLa.out.only⟩
      have e40 : ¬ (40 : Int) < (m : Int) := by omega
      by_cases h60 : 60 < y
      · have e60 : (60 : Int) < (y : Int) := by omega
        go_wp2
        go_ret
        exact ⟨rfl, HLa.out.only⟩
      have e60 : ¬ (60 : Int) < (y : Int) := by omega
      have HEX := Lib.hid (rexpand qA m qc _ ts 3000 wa (HQS.out.new HLa.out.only) HQN.out (by omega) (by decide) (by decide))
      unfold ExPost at HEX
      obtain ⟨⟨want, er⟩, hr⟩ : ∃ r, expandF 3000 ts [] = r := ⟨_, rfl⟩
      rw [hr] at HEX
      simp only at HEX
      have HXR := Lib.hid hr
      obtain ⟨M, hM⟩ : ∃ M, k % 3 = M := ⟨_, rfl⟩
      have hM2 : (k : Int) % 3 = (M : Int) := by omega
      have hM3 : (k : Int).tmod 3 = (M : Int) := by rw [Int.tmod_eq_emod_of_nonneg (by omega)]; exact hM2
      have hM4 : M < 3 := by omega
      clear hr hM
      go_upto_region 15 with (go_at_call 18; refine HEX.out.mono ?_; rintro e w3 ⟨rfl, o3⟩)
      have HL3 : Hid (LAt w b bl (fun x => Lies Ak x ∨ x = g) w3) := Lib.hid (HLa.out.new o3)
      have HR3 : Hid (Row 3 w3 Ak j ck (ints ks)) := Lib.hid (HRa.out.only o3 fun _ _ f => f)
      have HI3 := Lib.hid (HIa.out.only o3 fun f => f)
      have HX3 : Hid (∀ x, (Lies Ak x ∨ x = g) → x < w3.heap.size) := Lib.hid fun x hx => Nat.lt_of_lt_of_le (HXa.out x hx) o3.size
      have ca0 := HI3.out.cell 0 rfl
      have ca1 := HI3.out.cell 1 rfl
      have ca2 := HI3.out.cell 2 rfl
      clear o3 HEX HLa HRa HIa HXa
      go_upto_block 2 with fail
      go_cut [8, 9, 10] (fun v8 v9 v10 wx => (∃ f : Int, v10 = .int .i64 f ∧ f ≠ 0 ∧ Hid (Only (fun _ => False) w wx)) ∨ (∃ S2 : ByteArray, v8 = .int .i64 0 ∧ v9 = .string S2 ∧ v10 = .int .i64 0 ∧ Hid (Put11 w b n j Ak ck bl W.data.toList ks ⟨k, S, qA, m, qc, ts⟩ M g S2 wx)))
      case first =>
        obtain ⟨Lb, hLb⟩ : ∃ Lb, decide ((j : Int) = (n : Int) - 1) = Lb := ⟨_, rfl⟩
        have HLb := Lib.hid hLb
        have eL : ((j : Int) == (n : Int) - 1) = Lb := by rw [← hLb, Bool.eq_iff_iff]; simp
        clear hLb
        have HBL : Hid (bl.length ≤ 100000) := Lib.hid (by have := HS.out.len; omega)
        have HY := Lib.hid hy
        rcases (show M = 0 ∨ M = 1 ∨ M = 2 by omega) with rfl | rfl | rfl
        · have HC : Hid (∀ wx, Only (fun _ => False) w3 wx → Calls Tryz.prog 8 #[.pointer (some ⟨b, 0, none⟩), .string S, .bool Lb] wx (LPut w b (storedB bl S Lb) (fun x => Lies Ak x ∨ x = g) wx)) := Lib.hid fun wx ho => lstored S Lb (HL3.out.new ho) (fun x hx => Nat.lt_of_lt_of_le (HX3.out x hx) ho.size) HBL.out (by rw [hy]; omega)
          have HFN : Hid (∀ wx wy, Only (fun _ => False) w3 wx → LAt w b (storedB bl S Lb) (fun x => Lies Ak x ∨ x = g) wy → Only (fun x => ¬ (Lies Ak x ∨ x = g)) wx wy → Put11 w b n j Ak ck bl W.data.toList ks ⟨k, S, qA, m, qc, ts⟩ 0 g S wy) := Lib.hid fun wx wy ho h1 h2 => by
            refine ⟨?_, .inl ⟨rfl, by show S.size ≤ 65535; rw [HY.out]; omega, rfl⟩, by rw [HY.out]; omega, (HR3.out.only ho fun _ _ f => f).only h2 fun x hx hn => hn (.inl hx), (HI3.out.only ho fun f => f).only h2 fun hn => hn (.inr rfl)⟩
            rw [HLb.out]
            exact h1
          go_upto_region 18 with fail
          refine Walk.region (fun W => W.cell? ⟨g, 1, none⟩ = some (.string S)) (.t 0 (.t 1 (.t 2 (.t 3 (.t 4 (.t 5 (.t 6 (.t 7 (.t 9 (.t 10 (.f 8 (.t 11 (.t 12 (.t 13 .nil)))))))))))))) (by kernel_rfl) (by kernel_rfl) (by kernel_rfl) (fun _ _ d _ _ h => by cases d <;> exact h) ?_
          have z1 : w3.drew.cell? ⟨g, 1, none⟩ = some (.string S) := ca1
          refine Walk.take (.pointer (some ⟨b, 0, none⟩)) rfl z1 (fun W hW => by kernel_rfl) ?_
          simp only [Act.put, List.setIfInBounds_toArray, List.set_cons_succ, List.set_cons_zero]
          refine Walk.take (.pointer (some ⟨g, 1, none⟩)) rfl z1 (fun W hW => by go_simp) ?_
          simp only [Act.put, List.setIfInBounds_toArray, List.set_cons_succ, List.set_cons_zero]
          refine Walk.take (.string S) rfl z1 (fun W hW => by go_simp) ?_
          simp only [Act.put, List.setIfInBounds_toArray, List.set_cons_succ, List.set_cons_zero]
          refine Walk.take (.int .i64 (j : Int)) rfl z1 (fun W hW => by kernel_rfl) ?_
          simp only [Act.put, List.setIfInBounds_toArray, List.set_cons_succ, List.set_cons_zero]
          refine Walk.take (.slice (some ⟨b0, off, none⟩) n c) rfl z1 (fun W hW => by kernel_rfl) ?_
          simp only [Act.put, List.setIfInBounds_toArray, List.set_cons_succ, List.set_cons_zero]
          refine Walk.take (.int .i64 (n : Int)) rfl z1 (fun W hW => by go_simp) ?_
          simp only [Act.put, List.setIfInBounds_toArray, List.set_cons_succ, List.set_cons_zero]
          refine Walk.take (.int .i64 ((n : Int) - 1)) rfl z1 (fun W hW => by have e : IntKind.i64.wrap ((n : Int) - 1) = (n : Int) - 1 := IntWalk.i64_in _ (by omega); go_simp) ?_
          simp only [Act.put, List.setIfInBounds_toArray, List.set_cons_succ, List.set_cons_zero]
          refine Walk.take (.bool Lb) rfl z1 (fun W hW => by go_simp) ?_
          simp only [Act.put, List.setIfInBounds_toArray, List.set_cons_succ, List.set_cons_zero]
          refine Walk.take (.pointer (some ⟨g, 1, none⟩)) rfl z1 (fun W hW => by go_simp) ?_
          simp only [Act.put, List.setIfInBounds_toArray, List.set_cons_succ, List.set_cons_zero]
          refine Walk.take (.string S) rfl z1 (fun W hW => by go_simp) ?_
          simp only [Act.put, List.setIfInBounds_toArray, List.set_cons_succ, List.set_cons_zero]
          refine op_call 8 #[.pointer (some ⟨b, 0, none⟩), .string S, .bool Lb] rfl (by kernel_rfl) ((HC.out w3.drew (Only.refl _ w3).drew).mono ?_)
          rintro e w4 ⟨rfl, h1, h2⟩
          have HP4 := Lib.hid (HFN.out w3.drew w4 (Only.refl _ w3).drew h1 h2)
          have z4 : w4.cell? ⟨g, 1, none⟩ = some (.string S) := HP4.out.box.cell 1 rfl
          refine ⟨_, rfl, z4, ?_⟩
          simp only [Act.put, List.setIfInBounds_toArray, List.set_cons_succ, List.set_cons_zero]
          refine Walk.take (.int .i64 0) rfl z4 (fun W hW => by kernel_rfl) ?_
          simp only [Act.put, List.setIfInBounds_toArray, List.set_cons_succ, List.set_cons_zero]
          refine Walk.take (.string S) rfl z4 (fun W hW => by kernel_rfl) ?_
          simp only [Act.put, List.setIfInBounds_toArray, List.set_cons_succ, List.set_cons_zero]
          refine Walk.take (.int .i64 0) rfl z4 (fun W hW => by kernel_rfl) ?_
          simp only [Act.put, List.setIfInBounds_toArray, List.set_cons_succ, List.set_cons_zero]
          show wpList _ _ _ _ _ _
          clear h1 h2 HC HFN
          go_wp2_with fail
          go_meet
          exact .inr ⟨S, rfl, rfl, rfl, HP4⟩
        · by_cases hm : allB ts = true
          · have HC : Hid (Calls Tryz.prog 12 #[.pointer (some ⟨b, 0, none⟩), .slice qA m qc, .bool Lb] w3 fun e wy => LPut w b (bl ++ plainB ts Lb) (fun x => Lies Ak x ∨ x = g) w3 e wy) := Lib.hid (lplain qA m qc ts Lb HL3.out HX3.out HBL.out HQS.out HQN.out (by omega) hm)
            have HM := Lib.hid hm
            clear hm
            go_wp2_with fail
            refine HC.out.mono ?_
            rintro e w4 ⟨rfl, h1, h2⟩
            have HO4 := Lib.hid h1.only
            by_cases her : er = 0
            · subst her
              have HP4 : Hid (Put11 w b n j Ak ck bl W.data.toList ks ⟨k, S, qA, m, qc, ts⟩ 1 g ⟨want.toArray⟩ w4) := Lib.hid (by
                refine ⟨?_, .inr (.inl ⟨rfl, HM.out, 3000, HXR.out⟩), ?_, HR3.out.only h2 fun x hx hn => hn (.inl hx), HI3.out.only h2 fun hn => hn (.inr rfl)⟩
                · rw [HLb.out]
                  exact h1
                · have := expandF_max 3000 ts [] want HXR.out (by decide)
                  show want.toArray.size ≤ 3000
                  rw [List.size_toArray]
                  omega)
              clear h1 h2 HC
              go_wp2_with fail
              go_meet
              exact .inr ⟨_, rfl, rfl, rfl, HP4⟩
            · clear h1 h2 HC
              go_wp2_with fail
              go_meet
              exact .inl ⟨er, rfl, her, HO4⟩
          · have HC : Hid (Calls Tryz.prog 12 #[.pointer (some ⟨b, 0, none⟩), .slice qA m qc, .bool Lb] w3 fun e w' => e = .returned (.int .i64 1) ∧ Only (fun _ => False) w3 w') := Lib.hid (plain_bad _ qA m qc _ ts Lb w3 (HQS.out.new HL3.out.only) HQN.out (by omega) (by simpa using hm))
            have her : er ≠ 0 := fun e => hm (expandF_all 3000 ts [] want (by rw [HXR.out, e]))
            clear hm
            go_wp2_with fail
            refine HC.out.mono ?_
            rintro e w4 ⟨rfl, o4⟩
            have HO4 := Lib.hid (HL3.out.only.trans o4)
            clear o4 HC
            go_wp2_with fail
            go_meet
            exact .inl ⟨er, rfl, her, HO4⟩
        · by_cases hm : allB ts = true
          · have HC : Hid (Calls Tryz.prog 14 #[.pointer (some ⟨b, 0, none⟩), .slice qA m qc, .bool Lb] w3 fun e wy => LPut w b (bl ++ ownBits ts Lb) (fun x => Lies Ak x ∨ x = g) w3 e wy ∧ Packed ts) := Lib.hid (lown qA m qc ts Lb HL3.out HX3.out HBL.out HQS.out HQN.out (by omega) hm)
            have HM := Lib.hid hm
            clear hm
            go_wp2_with fail
            refine HC.out.mono ?_
            rintro e w4 ⟨⟨rfl, h1, h2⟩, hpk⟩
            have HO4 := Lib.hid h1.only
            by_cases her : er = 0
            · subst her
              have HP4 : Hid (Put11 w b n j Ak ck bl W.data.toList ks ⟨k, S, qA, m, qc, ts⟩ 2 g ⟨want.toArray⟩ w4) := Lib.hid (by
                refine ⟨?_, .inr (.inr ⟨rfl, HM.out, hpk, 3000, HXR.out⟩), ?_, HR3.out.only h2 fun x hx hn => hn (.inl hx), HI3.out.only h2 fun hn => hn (.inr rfl)⟩
                · rw [HLb.out]
                  exact h1
                · have := expandF_max 3000 ts [] want HXR.out (by decide)
                  show want.toArray.size ≤ 3000
                  rw [List.size_toArray]
                  omega)
              clear h1 h2 HC hpk
              go_wp2_with fail
              go_meet
              exact .inr ⟨_, rfl, rfl, rfl, HP4⟩
            · clear h1 h2 HC hpk
              go_wp2_with fail
              go_meet
              exact .inl ⟨er, rfl, her, HO4⟩
          · have HC : Hid (Calls Tryz.prog 14 #[.pointer (some ⟨b, 0, none⟩), .slice qA m qc, .bool Lb] w3 fun e w' => e = .returned (.int .i64 1) ∧ Only (fun _ => False) w3 w') := Lib.hid (own_bad _ qA m qc _ ts Lb w3 (HQS.out.new HL3.out.only) HQN.out (by omega) (by simpa using hm))
            have her : er ≠ 0 := fun e => hm (expandF_all 3000 ts [] want (by rw [HXR.out, e]))
            clear hm
            go_wp2_with fail
            refine HC.out.mono ?_
            rintro e w4 ⟨rfl, o4⟩
            have HO4 := Lib.hid (HL3.out.only.trans o4)
            clear o4 HC
            go_wp2_with fail
            go_meet
            exact .inl ⟨er, rfl, her, HO4⟩
      case rest =>
        rcases hcut with ⟨f, rfl, hf, HO⟩ | ⟨S2, rfl, rfl, rfl, HP4⟩
        · have hfb : (f == 0) = false := by rw [beq_eq_false_iff_ne]; exact hf
          go_wp2
          go_ret
          exact ⟨rfl, HO.out⟩
        · have cb0 := HP4.out.box.cell 0 rfl
          obtain ⟨z, hz⟩ : ∃ z, W.size = z := ⟨_, rfl⟩
          obtain ⟨z2, hz2⟩ : ∃ z2, S2.size = z2 := ⟨_, rfl⟩
          have hzz : z2 ≤ 3000 := by rw [← hz2]; exact HP4.out.len
          rw [hz] at hW
          obtain ⟨wd, hwd⟩ : ∃ wd, wc.alloc (.cells #[.int .i64 (M : Int)] 3) = wd := ⟨_, rfl⟩
          have od : Only (fun _ => False) wc wd := by rw [← hwd]; exact (Only.refl _ wc).alloc _
          have HRd : Hid (Row 3 wd Ak j ck (ints ks)) := Lib.hid (HP4.out.row.only od fun _ _ f => f)
          have HSR : Hid (Src Tryz.prog 1 44 (.slice (some ⟨wc.heap.size, 0, none⟩) 1 1) 1 [.int .i64 (M : Int)] wd) := Lib.hid (by rw [← hwd]; exact Src.oneInt Tryz.underlying44 wc .i64 (M : Int) 1 3)
          have HLd : Hid (LAt w b (pcBits bl ⟨M, S, ts⟩ (decide ((j : Int) = (n : Int) - 1))) (fun x => Lies Ak x ∨ x = g) wd) := Lib.hid (HP4.out.at_.new od)
          have HSn : Hid (Say11 n (j + 1) (pcBits bl ⟨M, S, ts⟩ (decide ((j : Int) = (n : Int) - 1))) (W ++ S2).data.toList (ks ++ [M])) := Lib.hid (by
            have := HS.out.next hlt ⟨M, S, ts⟩ S2.data.toList HP4.out.ok (by show S.size ≤ 60; omega) (by show ts.length ≤ 40; have := HQN.out; omega) (by show S2.size ≤ 3000; omega)
            rw [show (W ++ S2).data.toList = W.data.toList ++ S2.data.toList by simp]
            exact this)
          have hzn : z + z2 ≤ 3000 * (j + 1) := by omega
          have HZ : Hid ((W ++ S2).size ≤ 3000 * (j + 1)) := Lib.hid (by rw [ByteArray.size_append]; omega)
          have HKF : Hid (∀ q, (Lies Ak q ∨ q = g) → w.heap.size ≤ q) := Lib.hid fun q hq => by
            rcases hq with e | e
            · exact HF.out q e
            · rw [e]; exact HGX.out.1
          have HWD : Hid (w.heap.size ≤ wd.heap.size) := Lib.hid (Nat.le_trans HP4.out.at_.only.size od.size)
          clear HP4 HS HF HGX od hzn
          go_wp2_with (at_builtin
                       refine wpList_append_row rfl (.tmp 94) (.tmp 99) 44 44 3 rfl Tryz.underlying44 info3 Ak j ck 1 (ints ks) [.int .i64 (M : Int)] (.slice (some ⟨wc.heap.size, 0, none⟩) 1 1) (by rfl) (by rfl) HRd.out rfl HSR.out (by omega) (by omega) ?_
                       intro A9 c9 w9 hrow9 honly9 hlies9
                       have H9 : Hid (LAt w b (pcBits bl ⟨M, S, ts⟩ (decide ((j : Int) = (n : Int) - 1))) (Lies A9) w9 ∧ Row 3 w9 A9 (j + 1) c9 (ints (ks ++ [M])) ∧ ∀ q, Lies A9 q → w.heap.size ≤ q) := Lib.hid (by
                         have hl : ∀ q, Lies A9 q → (Lies Ak q ∨ q = g) ∨ wd.heap.size ≤ q := fun q hq => by
                           rcases hlies9 with e | e
                           · rw [e] at hq
                             exact .inl (.inl hq)
                           · obtain ⟨ad, e1, e2⟩ := hq
                             rw [e] at e1
                             obtain rfl := Option.some.inj e1
                             exact .inr (Nat.le_of_eq e2)
                         refine ⟨HLd.out.fresh (honly9.mono fun _ h => .inl h) HKF.out hl, ?_, fun q hq => ?_⟩
                         · rw [ints_snoc]
                           exact hrow9
                         · rcases hl q hq with e | e
                           · exact HKF.out q e
                           · exact Nat.le_trans HWD.out e)
                       clear hrow9 honly9 hlies9)
          go_roundg (gk - 1)
          case measure => omega
          case rel => exact ⟨j + 1, A9, c9, _, W ++ S2, ks ++ [M], by go_num, rfl, rfl, by omega, by omega, HZ.out, Lib.hid H9.out.1, Lib.hid H9.out.2.1, Lib.hid H9.out.2.2, HSn⟩
    · obtain rfl : j = n := by omega
      have HT : Hid (Calls Tryz.prog 9 #[.pointer (some ⟨b, 0, none⟩)] wr fun e w' => (∃ t, e = .returned (.string t) ∧ TextIs bl t) ∧ wr = w') := Lib.hid (by
        obtain ⟨F, h1, _⟩ := HL.out.wf
        exact wtext b F bl wr h1)
      have HOw := Lib.hid HL.out.only
      clear HL HF
      go_wp2_with fail
      refine HT.out.mono ?_
      rintro e _ ⟨⟨t, rfl, ht⟩, rfl⟩
      have HB := Lib.hid (read_back HS.out h6n t W ht rfl wr)
      obtain ⟨z, hz⟩ : ∃ z, W.size = z := ⟨_, rfl⟩
      obtain ⟨T, hT⟩ : ∃ T, t.size = T := ⟨_, rfl⟩
      rw [hz] at hW
      rw [hz, hT] at HB
      clear HT ht
      go_wp2_with fail
      refine HB.out.mono ?_
      rintro e w5 ⟨A5, c5, rfl, s5, o5⟩
      have HS5 := Lib.hid s5
      have HR5 := Lib.hid (HR.out.only o5 fun _ _ f => f).see
      have HKL := Lib.hid HS.out.kinds
      have HO5 := Lib.hid (HOw.out.trans o5)
      clear HB s5 o5 HR HS HOw
      go_wp2_with fail
      go_loopg [16, 135] j (fun gk u i wx => ∃ (k : Nat), i = .int .i64 k ∧ k + gk ≤ j ∧ j ≤ k + gk ∧ ∃ m, wx = w5.drewN m)
      case atStart => exact ⟨0, rfl, by omega, by omega, 0, rfl⟩
      case round =>
        obtain ⟨k, rfl, hk, hk2, m, rfl⟩ := hrel
        by_cases hlt2 : k < j
        · obtain ⟨b1, o1, rfl, _, d1⟩ := HS5.out k _ (ints_at ks k (by rw [HKL.out]; exact hlt2))
          obtain ⟨b2, o2, rfl, _, d2⟩ := HR5.out k _ (ints_at ks k (by rw [HKL.out]; exact hlt2))
          obtain ⟨y, hy⟩ : ∃ y, ln ks k = y := ⟨_, rfl⟩
          rw [hy] at d1 d2
          have hk3 : (k : Int) < (j : Int) := by omega
          go_wp2_with fail
          go_quiet (fail)
          go_wp2_with fail
          go_roundg (gk - 1)
          case measure => omega
          case rel => exact ⟨k + 1, by go_num, by omega, by omega, m + nq, by simp⟩
        · go_wp2
          go_ret
          exact ⟨rfl, HO5.out.drewN m⟩
end Go.Proofs.YtjlkjebmilfgoaaGreat
