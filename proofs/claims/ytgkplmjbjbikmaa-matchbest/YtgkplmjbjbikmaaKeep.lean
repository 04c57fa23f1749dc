/- Layer 9, the program: places are kept. -/
import Derived.Test.YtgkplmjbjbikmaaMark
namespace Go.Proofs.Ytgkplmjbjbikmaa
open Go.RowKit

def nats (l : List Nat) : List Value := l.map fun n => .int .i64 (n : Nat)
theorem nats_at (l : List Nat) (i : Nat) (h : i < l.length) : (nats l)[i]? = some (.int .i64 (l.getD i 0 : Nat)) := by
  simp [nats, h]
theorem nats_set (l : List Nat) (i x : Nat) : (nats l).set i (.int .i64 (x : Nat)) = nats (l.set i x) := by
  simp [nats, List.map_set]
/-- Where a trail lies, and what it keeps. -/
structure Tr (w : World) (T N O : Nat) (s : ByteArray) (wd W : Nat) (t : St) : Prop where
  it : Is w T 53 (tr s wd W N O t.kept)
  nn : Is w N 3 (nats t.nn)
  oo : Is w O 3 (nats t.oo)
  tN : T ≠ N
  tO : T ≠ O
  nO : N ≠ O
  good : Good s.data.toList W t
  w1 : wd ≤ 15
  w2 : 2 ^ wd = W
  sz : s.size ≤ 16777216
/-- The blocks of a trail. -/
def Of (T N O : Nat) (j : Nat) : Prop := j = T ∨ j = N ∨ j = O
section
variable {w w' : World} {T N O wd W : Nat} {s : ByteArray} {t : St} {S : Nat → Prop}
theorem Tr.only (h : Tr w T N O s wd W t) (k : Only S w w') (hT : ¬ S T) (hN : ¬ S N) (hO : ¬ S O) : Tr w' T N O s wd W t :=
  ⟨h.it.only k hT, h.nn.only k hN, h.oo.only k hO, h.tN, h.tO, h.nO, h.good, h.w1, h.w2, h.sz⟩
theorem Tr.new (h : Tr w T N O s wd W t) (k : Only (fun _ => False) w w') : Tr w' T N O s wd W t := h.only k id id id
end

set_option maxHeartbeats 4000000 in
theorem keepUpTo (T N O a wd W : Nat) (s : ByteArray) (t : St) (w : World) (h : Tr w T N O s wd W t) (ha : a + 2 ≤ s.size) :
    Calls Try.prog 28 #[.pointer (some ⟨T, 0, none⟩), .int .i64 a] w fun e w' => e = .returned (.tuple #[]) ∧ Tr w' T N O s wd W (keepTo (markAt s.data.toList wd) a t) ∧ Only (Of T N O) w w' := by
  have HS := h.sz
  have b2 : (a : Int) ≤ 16777216 := by omega
  obtain ⟨n, hn⟩ : ∃ n, a - t.kept = n := ⟨_, rfl⟩
  have HK : Hid (keepTo (markAt s.data.toList wd) a t = keepN (markAt s.data.toList wd) n t) := Lib.hid (by unfold keepTo; rw [hn])
  have HT := Lib.hid h
  have hkn : (t.kept + n = a ∨ (n = 0 ∧ a ≤ t.kept)) := by omega
  have HKN := Lib.hid hkn
  clear h hn hkn
  go_enter Try.func28, Try.ntmps28
  go_wp2_with fail
  go_loopg [4] n (fun gk v wx => ∃ (t' : St), Hid (Tr wx T N O s wd W t') ∧ Hid (keepN (markAt s.data.toList wd) gk t' = keepN (markAt s.data.toList wd) n t) ∧ Hid (t'.kept + gk = a ∨ (gk = 0 ∧ a ≤ t'.kept)) ∧ Hid (Only (Of T N O) w wx))
  case atStart => exact ⟨t, HT, Lib.hid rfl, HKN, Lib.hid (Only.refl _ w)⟩
  case round =>
    clear HT HKN
    obtain ⟨t', HT, HE, HG, HO⟩ := hrel
    obtain ⟨kept, hkept⟩ : ∃ k, t'.kept = k := ⟨_, rfl⟩
    have hg := HG.out
    rw [hkept] at hg
    have hit : Is wr T 53 (tr s wd W N O kept) := hkept ▸ HT.out.it
    have HIT := Lib.hid hit
    have c2 := hit.cell 2 rfl
    have c3 := hit.cell 3 rfl
    have c4 := hit.cell 4 rfl
    by_cases hlt : kept < a
    · have hg1 : kept + gk = a := by omega
      obtain ⟨m, hm⟩ : ∃ m, markAt s.data.toList wd kept = m := ⟨_, rfl⟩
      have hml : m < W := by rw [← hm, ← HT.out.w2]; exact markAt_lt _ _ _ (by have := HT.out.w1; omega)
      have hW : W ≤ 32768 := by
        have := Nat.pow_le_pow_right (n := 2) (by decide) HT.out.w1
        rw [HT.out.w2] at this
        omega
      have HM := Lib.hid hm
      clear hm hg hit
      go_upto_region 3 with (go_at_call 29; refine (mark T s wd W N O kept kept _ HIT.out (by omega) (by omega) HT.out.w1).mono ?_; rw [HM.out]; rintro e w1 ⟨rfl, n1, rfl⟩)
      have HT2 : Hid (Tr (wr.drewN n1) T N O s wd W t') := Lib.hid (HT.out.new ((Only.refl _ wr).drewN n1))
      have HO2 : Hid (Only (Of T N O) w (wr.drewN n1)) := Lib.hid (HO.out.drewN n1)
      obtain ⟨w2, hw2⟩ : ∃ w2, wr.drewN n1 = w2 := ⟨_, rfl⟩
      rw [hw2] at HT2 HO2 ⊢
      clear hw2 HT HO HIT c2 c3 c4
      obtain ⟨x, hx⟩ : ∃ x, t'.nn.getD m 0 = x := ⟨_, rfl⟩
      have HX := Lib.hid hx
      have hit : Is w2 T 53 (tr s wd W N O kept) := hkept ▸ HT2.out.it
      have c2 := hit.cell 2 rfl
      have c3 := hit.cell 3 rfl
      have c4 := hit.cell 4 rfl
      have d1 := HT2.out.nn.cell m (nats_at t'.nn m (by rw [HT2.out.good.nl]; exact hml))
      rw [hx] at d1
      have f1 := HT2.out.oo.frozen kept
      have d2 := HT2.out.oo.cell kept (nats_at t'.oo kept (by rw [HT2.out.good.ol]; show kept < s.size; omega))
      have l1 : (m : Int) < (W : Int) := by omega
      have l2 : (kept : Int) < (s.size : Int) := by omega
      clear hx hit
      go_region
      have i3 : Is (w2.setCell ⟨O, kept, none⟩ (.int .i64 (x : Nat))).drew T 53 (tr s wd W N O kept) := Is.far (hkept ▸ HT2.out.it) HT2.out.tO _
      have n3 : Is (w2.setCell ⟨O, kept, none⟩ (.int .i64 (x : Nat))).drew N 3 (nats t'.nn) := Is.far HT2.out.nn HT2.out.nO _
      have o3 : Is (w2.setCell ⟨O, kept, none⟩ (.int .i64 (x : Nat))).drew O 3 (nats (t'.oo.set kept x)) := by
        have := Is.set HT2.out.oo kept (.int .i64 (x : Nat))
        rw [nats_set] at this
        exact this
      have ho3 : Only (Of T N O) w (w2.setCell ⟨O, kept, none⟩ (.int .i64 (x : Nat))).drew := (HO2.out.set (p := ⟨O, kept, none⟩) (.inl (.inr (.inr rfl))) _).drew
      obtain ⟨w3, hw3⟩ : ∃ w3, (w2.setCell ⟨O, kept, none⟩ (.int .i64 (x : Nat))).drew = w3 := ⟨_, rfl⟩
      rw [hw3] at i3 n3 o3 ho3 ⊢
      have HI3 := Lib.hid i3
      have HN3 := Lib.hid n3
      have HO3 := Lib.hid o3
      have HW3 := Lib.hid ho3
      clear hw3 i3 n3 o3 ho3 HO2 c2 c3 c4 d1 d2 f1
      obtain ⟨K1, hK1⟩ : ∃ K1, kept + 1 = K1 := ⟨_, rfl⟩
      have e1 : IntKind.i64.wrap ((kept : Int) + 1) = (K1 : Int) := by rw [IntWalk.i64_in _ (by omega)]; omega
      have c2 := HI3.out.cell 2 rfl
      have c3 := HI3.out.cell 3 rfl
      have c4 := HI3.out.cell 4 rfl
      have d1 := HN3.out.cell m (nats_at t'.nn m (by rw [HT2.out.good.nl]; exact hml))
      have f1 := HN3.out.frozen m
      go_upto_region 4 with fail
      go_region
      have i4 : Is (w3.setCell ⟨N, m, none⟩ (.int .i64 (K1 : Nat))).drew T 53 (tr s wd W N O kept) := Is.far HI3.out HT2.out.tN _
      have o4 : Is (w3.setCell ⟨N, m, none⟩ (.int .i64 (K1 : Nat))).drew O 3 (nats (t'.oo.set kept x)) := Is.far HO3.out HT2.out.nO.symm _
      have n4 : Is (w3.setCell ⟨N, m, none⟩ (.int .i64 (K1 : Nat))).drew N 3 (nats (t'.nn.set m K1)) := by
        have := Is.set HN3.out m (.int .i64 (K1 : Nat))
        rw [nats_set] at this
        exact this
      have ho4 : Only (Of T N O) w (w3.setCell ⟨N, m, none⟩ (.int .i64 (K1 : Nat))).drew := (HW3.out.set (p := ⟨N, m, none⟩) (.inl (.inr (.inl rfl))) _).drew
      obtain ⟨w4, hw4⟩ : ∃ w4, (w3.setCell ⟨N, m, none⟩ (.int .i64 (K1 : Nat))).drew = w4 := ⟨_, rfl⟩
      rw [hw4] at i4 n4 o4 ho4 ⊢
      have HI4 := Lib.hid i4
      have HN4 := Lib.hid n4
      have HO4 := Lib.hid o4
      have HW4 := Lib.hid ho4
      clear hw4 i4 n4 o4 ho4 HI3 HN3 HO3 HW3 c2 c3 c4 d1 f1
      have e3 : (kept : Int) + 1 = (K1 : Int) := by omega
      have c4 := HI4.out.cell 4 rfl
      have f4 := HI4.out.frozen 4
      clear e1
      go_wp2_with fail
      have HK1 : Hid (keep1 (markAt s.data.toList wd) t' = ⟨t'.nn.set m K1, t'.oo.set kept x, K1⟩) := Lib.hid (by unfold keep1; rw [hkept, HM.out, HX.out, hK1])
      have HTN : Hid (Tr (w4.setCell ⟨T, 4, none⟩ (.int .i64 (K1 : Nat))) T N O s wd W (keep1 (markAt s.data.toList wd) t')) := Lib.hid (by
        have hg := HT2.out.good.keep1 (markAt s.data.toList wd)
        rw [HK1.out] at hg ⊢
        exact ⟨HI4.out.set 4 _, Is.far HN4.out HT2.out.tN.symm _, Is.far HO4.out HT2.out.tO.symm _, HT2.out.tN, HT2.out.tO, HT2.out.nO, hg, HT2.out.w1, HT2.out.w2, HT2.out.sz⟩)
      have HWN : Hid (Only (Of T N O) w (w4.setCell ⟨T, 4, none⟩ (.int .i64 (K1 : Nat)))) := Lib.hid (HW4.out.set (p := ⟨T, 4, none⟩) (.inl (.inl rfl)) _)
      go_roundg (gk - 1)
      case measure => omega
      case rel =>
        refine ⟨_, HTN, Lib.hid ?_, Lib.hid ?_, HWN⟩
        · rw [← HE.out]
          obtain ⟨g, rfl⟩ : ∃ g, gk = g + 1 := ⟨gk - 1, by omega⟩
          rfl
        · rw [HK1.out]
          simp only
          omega
    · have hg0 : gk = 0 := by omega
      have HF : Hid (t' = keepTo (markAt s.data.toList wd) a t) := Lib.hid (by
        rw [HK.out, ← HE.out, hg0]
        rfl)
      clear hg hg0 hit
      go_wp2
      go_end0
      rw [← HF.out]
      exact ⟨rfl, HT.out, HO.out⟩
end Go.Proofs.Ytgkplmjbjbikmaa
