/- Layer 4: the document's 64 words of a block. -/
import Derived.Test.YtohocbfmjcfdgaaDoorFirst
namespace Go.Proofs.YtohocbfmjcfdgaaDoor
open Go.RowKit

theorem nums_more (b : List UInt8) (k x : Nat) (hx : x = if k < 16 then given b k else next (wds b k) k) : nums (wds b (k + 1)) = nums (wds b k) ++ [.int .u32 (x : Nat)] := by
  subst hx
  simp [nums, wds]
theorem plus4 (a b c d : Nat) (ha : a < 256) (hb : b < 256) (hc : c < 256) (hd : d < 256) :
    IntKind.u32.wrap (IntKind.u32.wrap (IntKind.u32.wrap (IntKind.u32.wrap (IntKind.u32.wrap (a : Int) * 16777216) + IntKind.u32.wrap (IntKind.u32.wrap (b : Int) * 65536)) + IntKind.u32.wrap (IntKind.u32.wrap (c : Int) * 256)) + IntKind.u32.wrap (d : Int))
      = ((a * 16777216 + b * 65536 + c * 256 + d : Nat) : Int) := by
  simp only [IntKind.wrap_u32']
  omega
theorem next_sum2 (l : List Nat) (k : Nat) : IntKind.u32.wrap (IntKind.u32.wrap (IntKind.u32.wrap (((l.getD (k - 16) 0 : Nat) : Int) + ((l.getD (k - 7) 0 : Nat) : Int)) + ((small0 (l.getD (k - 15) 0) : Nat) : Int)) + ((small1 (l.getD (k - 2) 0) : Nat) : Int)) = ((next l k : Nat) : Int) := next_sum l k
theorem Row.heap {e : TypeId} {w w' : World} {A : Option Addr} {n c : Nat} {l : List Value} (h : Row e w A n c l) (hh : w'.heap = w.heap) : Row e w' A n c l := by
  unfold Row at h ⊢
  rw [hh]
  exact h
theorem Src.heap {P : Program} {tx e : TypeId} (hk : P.underlying tx = some (.slice e)) (w W : World) (vs : List Value) (n c : Nat) (t : TypeId) (hW : W.heap = (w.alloc (.cells vs.toArray t)).heap) (hn : vs.length = n) (h1 : ∀ v ∈ vs, v.oneCell' = true) :
    Src P 1 tx (.slice (some ⟨w.heap.size, 0, none⟩) n c) n vs W :=
  Src.ofSlice _ hk _ n c _ (by simpa using hn) (fun j u hj => by rw [Addr.add_lit, Nat.zero_add]; exact (World.cell?_of_block (by rw [hW])).trans ((Is.new w t vs).cell j hj)) h1
def WordsPost (w : World) (l : List UInt8) (e : Ending) (w' : World) : Prop := ∃ (A : Option Addr) (c : Nat), e = .returned (.slice A 64 c) ∧ Made 33 w A 64 c (nums (wds l 64)) w'

set_option maxHeartbeats 2000000 in
set_option maxRecDepth 10000 in
theorem rwords (s : ByteArray) (w : World) (hs : s.size = 64) : Calls Tryd.prog 13 #[.string s] w (WordsPost w s.data.toList) := by
  go_enter Tryd.func13, Tryd.ntmps13
  go_wp2_with fail
  go_loopg [3, 4] 16 (fun gk v vi wx => ∃ (k y c : Nat) (A : Option Addr), v = .slice A k c ∧ vi = .int .i64 y ∧ 4 * k = y ∧ k + gk ≤ 16 ∧ 16 ≤ k + gk ∧ Made 33 w A k c (nums (wds s.data.toList k)) wx)
  case atStart => exact ⟨0, 0, 0, none, rfl, rfl, rfl, by omega, by omega, Row.nil 33 w, Only.refl _ w, by rintro j ⟨ad, e, _⟩; cases e⟩
  case round =>
    obtain ⟨k, p, c, A, rfl, rfl, hp, hk, hk2, hM⟩ := hrel
    by_cases hlt : k < 16
    · have HM := Lib.hid hM
      obtain ⟨q1, hq1⟩ : ∃ q, p + 1 = q := ⟨_, rfl⟩
      obtain ⟨q2, hq2⟩ : ∃ q, p + 2 = q := ⟨_, rfl⟩
      obtain ⟨q3, hq3⟩ : ∃ q, p + 3 = q := ⟨_, rfl⟩
      have e1 : (p : Int) + 1 = (q1 : Int) := by omega
      have e2 : (p : Int) + 2 = (q2 : Int) := by omega
      have e3 : (p : Int) + 3 = (q3 : Int) := by omega
      have hs2 : (s.size : Int) = 64 := by omega
      have j0 : p < 64 := by omega
      have j1 : q1 < 64 := by omega
      have j2 : q2 < 64 := by omega
      have j3 : q3 < 64 := by omega
      have i0 : (p : Int) < 64 := by omega
      have i1 : (q1 : Int) < 64 := by omega
      have i2 : (q2 : Int) < 64 := by omega
      have i3 : (q3 : Int) < 64 := by omega
      have f0 := wrap_small p (by omega)
      have f1 := wrap_small q1 (by omega)
      have f2 := wrap_small q2 (by omega)
      have f3 := wrap_small q3 (by omega)
      have hw : given s.data.toList k = s[p].toNat * 16777216 + s[q1].toNat * 65536 + s[q2].toNat * 256 + s[q3].toNat := by
        unfold given
        rw [byteAt_text s _ (by omega), byteAt_text s _ (by omega), byteAt_text s _ (by omega), byteAt_text s _ (by omega)]
        subst hq1 hq2 hq3 hp
        rfl
      obtain ⟨x0, hx0⟩ : ∃ x, s[p] = x := ⟨_, rfl⟩
      obtain ⟨x1, hx1⟩ : ∃ x, s[q1] = x := ⟨_, rfl⟩
      obtain ⟨x2, hx2⟩ : ∃ x, s[q2] = x := ⟨_, rfl⟩
      obtain ⟨x3, hx3⟩ : ∃ x, s[q3] = x := ⟨_, rfl⟩
      rw [hx0, hx1, hx2, hx3] at hw
      have hraw := plus4 x0.toNat x1.toNat x2.toNat x3.toNat x0.toNat_lt x1.toNat_lt x2.toNat_lt x3.toNat_lt
      rw [← hw] at hraw
      obtain ⟨G, hG⟩ : ∃ G, given s.data.toList k = G := ⟨_, rfl⟩
      rw [hG] at hraw
      have HG := Lib.hid hG
      clear hw hM hG
      have l0 := x0.toNat_lt
      have l1 := x1.toNat_lt
      have l2 := x2.toNat_lt
      have l3 := x3.toNat_lt
      go_wp2_with fail
      refine InTurn.region 26 (by decide) (by kernel_rfl) (by kernel_rfl) (by kernel_rfl) (fun _ _ d _ _ h => by cases d <;> exact h) ?_
      simp only [List.take_succ_cons, List.take_zero, List.drop_succ_cons, List.drop_zero]
      repeat
        refine InTurn.step ?_
        apply Exists.intro
        refine ⟨Or.inl ⟨by rfl, fun W => ?_⟩, ?_⟩
        · go_simp
          try with_reducible rfl
        simp only [Act.put, List.setIfInBounds_toArray, List.set_cons_zero, List.set_cons_succ]
      refine InTurn.nil ?_
      have HMd := Lib.hid HM.out.drew
      obtain ⟨wd, hwd⟩ : ∃ wd, wr.drew = wd := ⟨_, rfl⟩
      rw [hwd] at HMd ⊢
      clear hwd HM
      go_wp2_with (at_builtin
                   refine wpList_append_row rfl (.tmp 12) (.tmp 38) 30 30 33 rfl Tryd.underlying30 info33 A k c 1 _ [.int .u32 (G : Nat)] (.slice (some ⟨wd.heap.size, 0, none⟩) 1 1) rfl rfl (HMd.out.1.alloc _) rfl (Src.oneInt Tryd.underlying30 wd .u32 (G : Nat) 1 33) (by omega) (by omega) ?_
                   intro A2 c2 w2 hrow2 honly2 hlies2
                   have HM2 := Lib.hid (HMd.out.append hrow2 honly2 hlies2)
                   clear hrow2 honly2 hlies2)
      go_roundg (gk - 1)
      case measure => omega
      case rel =>
        refine ⟨k + 1, p + 4, c2, A2, rfl, by go_num, by omega, by omega, by omega, ?_⟩
        rw [nums_more _ k G (by rw [if_pos hlt, HG.out])]
        exact HM2.out
    · obtain rfl : k = 16 := by omega
      have HM := Lib.hid hM
      clear hM hk hk2 hlt
      obtain rfl : p = 64 := by omega
      clear hp
      go_wp2_with fail
      go_loopg [3, 5] 48 (fun gk v vi wx => ∃ (k c : Nat) (A : Option Addr), v = .slice A k c ∧ vi = .int .i64 k ∧ k + gk ≤ 64 ∧ 64 ≤ k + gk ∧ 16 ≤ k ∧ Made 33 w A k c (nums (wds s.data.toList k)) wx)
      case atStart => exact ⟨16, c, A, rfl, rfl, by omega, by omega, by omega, HM.out⟩
      case round =>
        obtain ⟨k, c, A, rfl, rfl, hk, hk2, hk3, hM⟩ := hrel
        clear HM
        by_cases hlt : k < 64
        · obtain ⟨p, hp⟩ : ∃ p, k - 16 = p := ⟨_, rfl⟩
          obtain ⟨q1, hq1⟩ : ∃ q, k - 7 = q := ⟨_, rfl⟩
          obtain ⟨q2, hq2⟩ : ∃ q, k - 15 = q := ⟨_, rfl⟩
          obtain ⟨q3, hq3⟩ : ∃ q, k - 2 = q := ⟨_, rfl⟩
          have e0 : (k : Int) - 16 = (p : Int) := by omega
          have e1 : (k : Int) - 7 = (q1 : Int) := by omega
          have e2 : (k : Int) - 15 = (q2 : Int) := by omega
          have e3 : (k : Int) - 2 = (q3 : Int) := by omega
          have f0 := wrap_small p (by omega)
          have f1 := wrap_small q1 (by omega)
          have f2 := wrap_small q2 (by omega)
          have f3 := wrap_small q3 (by omega)
          have i0 : (p : Int) < (k : Int) := by omega
          have i1 : (q1 : Int) < (k : Int) := by omega
          have i2 : (q2 : Int) < (k : Int) := by omega
          have i3 : (q3 : Int) < (k : Int) := by omega
          have hwl := wds_length s.data.toList k
          obtain ⟨ga, rfl, d0, _⟩ := hM.1.cell (nums_at (wds s.data.toList k) p (by omega))
          obtain ⟨g1, h1, d1, _⟩ := hM.1.cell (nums_at (wds s.data.toList k) q1 (by omega))
          obtain ⟨g2, h2, d2, _⟩ := hM.1.cell (nums_at (wds s.data.toList k) q2 (by omega))
          obtain ⟨g3, h3, d3, _⟩ := hM.1.cell (nums_at (wds s.data.toList k) q3 (by omega))
          simp only [Option.some.injEq, Addr.mk.injEq, and_true] at h1 h2 h3
          subst h1 h2 h3
          have hat : ∀ (W : World) (j : Nat), Row 33 W (some ⟨ga, 0, none⟩) k c (nums (wds s.data.toList k)) → j < k → W.cell? ⟨ga, j, none⟩ = some (.int .u32 ((wds s.data.toList k).getD j 0 : Nat)) := by
            intro W j hR hj
            obtain ⟨g', e', d', _⟩ := hR.cell (nums_at (wds s.data.toList k) j (by omega))
            simp only [Option.some.injEq, Addr.mk.injEq, and_true] at e'
            subst e'
            exact d'
          have hsum := next_sum2 (wds s.data.toList k) k
          rw [hp, hq1, hq2, hq3] at hsum
          have l2 := wds_at_lt s.data.toList k q2
          have l3 := wds_at_lt s.data.toList k q3
          have hkeep : ∀ W : World, Row 33 W (some ⟨ga, 0, none⟩) k c (nums (wds s.data.toList k)) → W.cell? ⟨ga, p, none⟩ = some (.int .u32 ((wds s.data.toList k).getD p 0 : Nat)) ∧ W.cell? ⟨ga, q1, none⟩ = some (.int .u32 ((wds s.data.toList k).getD q1 0 : Nat)) :=
            fun W hW => ⟨hat W p hW (by omega), hat W q1 hW (by omega)⟩
          obtain ⟨x0, hx0⟩ : ∃ x, (wds s.data.toList k).getD p 0 = x := ⟨_, rfl⟩
          obtain ⟨x1, hx1⟩ : ∃ x, (wds s.data.toList k).getD q1 0 = x := ⟨_, rfl⟩
          obtain ⟨x2, hx2⟩ : ∃ x, (wds s.data.toList k).getD q2 0 = x := ⟨_, rfl⟩
          obtain ⟨x3, hx3⟩ : ∃ x, (wds s.data.toList k).getD q3 0 = x := ⟨_, rfl⟩
          rw [hx0] at d0 hsum hkeep
          rw [hx1] at d1 hsum hkeep
          rw [hx2] at d2 hsum l2
          rw [hx3] at d3 hsum l3
          obtain ⟨G, hG⟩ : ∃ G, next (wds s.data.toList k) k = G := ⟨_, rfl⟩
          rw [hG] at hsum
          have HK := Lib.hid hkeep
          have HM := Lib.hid hM
          have HG := Lib.hid hG
          clear hx0 hx1 hx2 hx3 hkeep hat hM hwl hG
          have g1 := u32_xor_nat (rightBy 7 x2) (rightBy 18 x2) (rot_lt l2) (rot_lt l2)
          have g2 := u32_xor_nat (rightBy 7 x2 ^^^ rightBy 18 x2) (x2 / 2 ^ 3) (xor_lt (rot_lt l2) (rot_lt l2)) (div_lt l2)
          have g3 := u32_xor_nat (rightBy 17 x3) (rightBy 19 x3) (rot_lt l3) (rot_lt l3)
          have g4 := u32_xor_nat (rightBy 17 x3 ^^^ rightBy 19 x3) (x3 / 2 ^ 10) (xor_lt (rot_lt l3) (rot_lt l3)) (div_lt l3)
          have u2 : ((x2 / 2 ^ 3 : Nat) : Int) = (x2 : Int) / 8 := by simp
          have u3 : ((x3 / 2 ^ 10 : Nat) : Int) = (x3 : Int) / 1024 := by simp
          have v2 : rightBy 7 x2 ^^^ rightBy 18 x2 ^^^ x2 / 2 ^ 3 = small0 x2 := rfl
          have v3 : rightBy 17 x3 ^^^ rightBy 19 x3 ^^^ x3 / 2 ^ 10 = small1 x3 := rfl
          rw [u2, v2] at g2
          rw [u3, v3] at g4
          obtain ⟨y2, hy2⟩ : ∃ y, rightBy 7 x2 ^^^ rightBy 18 x2 = y := ⟨_, rfl⟩
          obtain ⟨y3, hy3⟩ : ∃ y, rightBy 17 x3 ^^^ rightBy 19 x3 = y := ⟨_, rfl⟩
          rw [hy2] at g1 g2
          rw [hy3] at g3 g4
          clear u2 u3 v2 v3 hy2 hy3
          go_wp2_with fail
          go_region_held3 (fun W => W.cell? ⟨ga, p, none⟩ = some (.int .u32 (x0 : Nat)) ∧ W.cell? ⟨ga, q1, none⟩ = some (.int .u32 (x1 : Nat)))
            (first | assumption | exact HK.out _ (Row.heap HM.out.1 rfl) | exact HK.out _ (Row.heap (HM.out.1.alloc (.cells #[.int .u32 (G : Nat)] 33)) rfl))
            (first
              | (refine step_append_keep (by rfl) (.tmp 54) (.tmp 84) 30 30 33 (by rfl) Tryd.underlying30 info33 (some ⟨ga, 0, none⟩) k c 1 _ [.int .u32 (G : Nat)] (.slice (some ⟨wr.heap.size, 0, none⟩) 1 1) (by rfl) (by rfl) (Row.heap (HM.out.1.alloc (.cells #[.int .u32 (G : Nat)] 33)) rfl) rfl (Src.heap Tryd.underlying30 wr _ [.int .u32 (G : Nat)] 1 1 33 rfl rfl (by simp [Value.oneCell'])) (by omega) (by omega) ?_
                 intro A2 c2 w3 hrow honly hlies hkeep
                 have hs3 := HK.out w3 hkeep
                 have ho' : Only (Lies (some ⟨ga, 0, none⟩)) (wr.alloc (.cells #[.int .u32 (G : Nat)] 33)) w3 := ⟨honly.os, honly.tape, honly.output, honly.size, honly.block⟩
                 have HM2 := Lib.hid (HM.out.append hrow ho' hlies)
                 clear hrow honly hlies hkeep ho')
              | (go_at_call 14; refine (rights _ _ _ (by assumption) (by decide)).mono ?_; rintro e w' ⟨rfl, m, rfl⟩))
          go_wp2_with fail
          go_roundg (gk - 1)
          case measure => omega
          case rel =>
            refine ⟨k + 1, c2, A2, rfl, by go_num, by omega, by omega, by omega, ?_⟩
            rw [nums_more _ k G (by rw [if_neg (by omega), HG.out])]
            exact HM2.out
        · obtain rfl : k = 64 := by omega
          have HM := Lib.hid hM
          clear hM
          go_wp2
          go_ret
          exact ⟨_, _, rfl, HM.out⟩
end Go.Proofs.YtohocbfmjcfdgaaDoor
