/- Layer 8, the document: stored bytes, a block, a stream. -/
import Derived.Test.YtjlkjebmilfgoaaGreatDRow
import Derived.Test.YtjlkjebmilfgoaaGreatRTree
import Derived.Test.YtjlkjebmilfgoaaGreatPStr
/- Layer 8, the document: a block whose bytes stand as they are. -/
namespace Go.Proofs.YtjlkjebmilfgoaaGreat
open Go.RowKit

theorem by8_at (B : List UInt8) (a : Nat) : ∀ (n i : Nat), i < n → (by8 B a n).getD i 0 = UInt8.ofNat (nm B (a + 8 * i) 8)
  | 0, i, h => by omega
  | n + 1, i, h => by
    rw [by8]
    by_cases hi : i < n
    · rw [List.getD_eq_getElem?_getD, List.getElem?_append_left (by rw [by8_length]; exact hi), ← List.getD_eq_getElem?_getD]
      exact by8_at B a n i hi
    · obtain rfl : i = n := by omega
      rw [List.getD_eq_getElem?_getD, List.getElem?_append_right (by rw [by8_length]; exact Nat.le_refl _), by8_length, Nat.sub_self]
      rfl
/-- A text that holds a row's bits is those bytes. -/
theorem text_by8 (B : List UInt8) (hB : Bits B) (a k : Nat) (t : List UInt8) (ha : a ≤ B.length) (hl : t.length = k) (he : le t = le2 ((B.drop a).take (8 * k))) : t = by8 B a k := by
  apply List.ext_getElem
  · rw [by8_length, hl]
  · intro i h1 h2
    have e1 := le_at i t
    rw [he, le2_take _ _ (bits_drop hB a), le2_drop B a hB ha, mod_div_mod _ _ _ _ (by omega), Nat.div_div_eq_div_mul, ← Nat.pow_add] at e1
    have e2 := by8_at B a k i (by omega)
    have e3 : t.getD i 0 = t[i] := by simp [h1]
    have e4 : (by8 B a k).getD i 0 = (by8 B a k)[i] := by simp [h2]
    rw [e3] at e1
    rw [← e4, e2]
    have e5 : nm B (a + 8 * i) 8 = (t[i]).toNat := e1
    rw [e5]
    simp

theorem Sees.mid {w : World} {Bd n g off z k : Nat} {l : List UInt8} (h : See w Bd (some ⟨g, off, none⟩) (bcells l)) (hn : l.length = n) (hz : z + k ≤ n) : Sees w (some ⟨g, off + z, none⟩) k ((l.drop z).take k) := by
  refine ⟨by rw [List.length_take, List.length_drop]; omega, fun i hi => ?_⟩
  obtain ⟨b, o, e, hb, hc⟩ := h (z + i) _ (bcells_at l (z + i) (by omega))
  simp only [Option.some.injEq, Addr.mk.injEq, and_true] at e
  obtain ⟨rfl, rfl⟩ := e
  refine ⟨g, off + z, rfl, cell_lt hc, ?_⟩
  rw [Nat.add_assoc, hc, List.getElem?_take, if_pos hi, List.getElem?_drop]
  simp [List.getD_eq_getElem?_getD]
theorem Sees.none_ {w : World} {A : Option Addr} : Sees w A 0 [] := ⟨rfl, fun i hi => by omega⟩

set_option maxRecDepth 100000 in
set_option maxHeartbeats 8000000 in
theorem dstored (p : RP) (hp : RB p) (hcap : p.nB ≤ p.cB) (h8 : ∃ q, p.nB = 8 * q) (a : Nat) (A : Option Addr) (n c : Nat) (kv : Value) (out : List UInt8) (w : World) (h : Rf p w a A n c kv out) (ha : a ≤ p.nB) (hn : n ≤ 100000) :
    Calls Tryz.prog 66 #[.pointer (some ⟨p.r, 0, none⟩)] w (DoneR p w A kv (mStored p.B p.most a out)) := by
  obtain ⟨R, hR⟩ : ∃ R, mStored p.B p.most a out = R := ⟨_, rfl⟩
  rw [hR]
  unfold mStored at hR
  have hpl := hp.len
  have hle := hp.le
  have hlen := h.len
  rw [hpl, hlen] at hR
  have hu : up8 a ≤ p.nB ∧ up8 a ≤ 1000000 := by
    obtain ⟨q, hq⟩ := h8
    unfold up8
    omega
  have c1 := h.is.cell 1 rfl
  have f1 := h.is.frozen 1
  have eu : (((a : Int) + 7) / 8) * 8 = (up8 a : Nat) := by unfold up8; omega
  obtain ⟨z, hz⟩ : ∃ z, up8 a = z := ⟨_, rfl⟩
  rw [hz] at hR hu eu
  have HG : Hid (∀ v, v = ((z : Nat) : Int) → Rf p (w.setCell ⟨p.r, 1, none⟩ (.int .i64 v)) z A n c kv out ∧ Only (· = p.r) w (w.setCell ⟨p.r, 1, none⟩ (.int .i64 v))) := Lib.hid fun v hv => by
    subst hv
    exact ⟨h.go z, Only.one _ p.r 1 _⟩
  have HN : Hid (∀ w2 a2, Rf p w2 a2 A n c kv out → a2 ≤ p.nB → Calls Tryz.prog 65 #[.pointer (some ⟨p.r, 0, none⟩), .int .i64 16] w2 (DVal p w2 A n c kv out (mNum p.B a2 16))) := Lib.hid fun w2 a2 h2 ha2 => dbits p hp a2 16 A n c kv out w2 h2 ha2 (by decide)
  unfold mNum at HN
  rw [hpl] at HN
  have HR := Lib.hid hR
  have HP := Lib.hid hp
  have HU := Lib.hid eu
  have HL := Lib.hid hlen
  clear h hR hp h8 hz
  go_enter Tryz.func66, Tryz.ntmps66
  go_wp2_with fail
  obtain ⟨g1, g2⟩ := HG.out _ rfl
  obtain ⟨w1, hw1⟩ : ∃ w1, w.setCell ⟨p.r, 1, none⟩ (.int .i64 (z : Nat)) = w1 := ⟨_, rfl⟩
  rw [hw1] at g1 g2
  try rw [hw1]
  have HR1 := Lib.hid g1
  have HO1 := Lib.hid g2
  clear g1 g2 HG hw1 c1 f1 eu
  refine (HN.out w1 z HR1.out hu.1).mono ?_
  rintro e w2 ⟨he2, ho2, hr2⟩
  have HO2 : Hid (Only (· = p.r) w w2) := Lib.hid (HO1.out.trans ho2)
  by_cases h16 : p.nB < z + 16
  · rw [if_pos h16] at he2
    subst he2
    have hR := HR.out
    rw [if_pos (by omega)] at hR
    have HRX := Lib.hid hR
    clear hR hr2 ho2 HR HN
    go_wp2
    go_ret
    rw [← HRX.out]
    exact ⟨rfl, HO2.out.mono fun _ e => .inl e, fun h => by cases h⟩
  · rw [if_neg h16] at he2 hr2
    subst he2
    have HR2 := Lib.hid (hr2 rfl)
    have lt1 := nm_lt p.B z 16
    obtain ⟨k, hk⟩ : ∃ k, nm p.B z 16 = k := ⟨_, rfl⟩
    have HK := Lib.hid hk
    rw [hk] at lt1 ⊢
    have lt1' : k ≤ 65535 := by omega
    clear hr2 ho2 lt1 hk
    go_wp2_with fail
    refine (HN.out w2 (z + 16) HR2.out (by omega)).mono ?_
    rintro e w3 ⟨he3, ho3, hr3⟩
    have HO3 : Hid (Only (· = p.r) w w3) := Lib.hid (HO2.out.trans ho3)
    by_cases h32 : p.nB < z + 32
    · rw [if_pos (by omega)] at he3
      subst he3
      have hR := HR.out
      rw [if_pos h32] at hR
      have HRX := Lib.hid hR
      clear hR hr3 ho3 HR HN
      go_wp2
      go_ret
      rw [← HRX.out]
      exact ⟨rfl, HO3.out.mono fun _ e => .inl e, fun h => by cases h⟩
    · rw [if_neg (by omega)] at he3 hr3
      subst he3
      have HR3 := Lib.hid (hr3 rfl)
      have lt2 := nm_lt p.B (z + 16) 16
      have hR := HR.out
      rw [if_neg h32, HK.out] at hR
      obtain ⟨m, hm⟩ : ∃ k, nm p.B (z + 16) 16 = k := ⟨_, rfl⟩
      rw [hm] at lt2 hR ⊢
      have lt2' : m ≤ 65535 := by omega
      clear hr3 ho3 lt2 hm HR HN HR2 HO2 HR1 HO1
      by_cases hfit : k + m ≠ 65535
      · rw [if_pos hfit] at hR
        have hne : ¬ (m : Int) = 65535 - (k : Int) := by omega
        have HRX := Lib.hid hR
        clear hR
        go_wp2
        go_ret
        rw [← HRX.out]
        exact ⟨rfl, HO3.out.mono fun _ e => .inl e, fun h => by cases h⟩
      · rw [if_neg hfit] at hR
        have hne : (m : Int) = 65535 - (k : Int) := by omega
        have hne2 : (65535 : Int) - (k : Int) = (m : Int) := by omega
        have d2 := HR3.out.is.cell 2 rfl
        have d3 := HR3.out.is.cell 3 rfl
        have ew : IntKind.i64.wrap ((n : Int) + (k : Int)) = (n : Int) + (k : Int) := IntWalk.i64_in _ (by omega)
        clear hne
        by_cases hroom : p.most < (n : Int) + k
        · rw [if_pos hroom] at hR
          have HRX := Lib.hid hR
          clear hR
          go_wp2_with fail
          go_quiet (fail)
          go_wp2
          go_ret
          rw [← HRX.out]
          exact ⟨rfl, (HO3.out.mono fun _ e => .inl e).drewN _, fun h => by cases h⟩
        · rw [if_neg hroom] at hR
          have HRX0 := Lib.hid hR
          clear hR
          go_wp2_with fail
          go_quiet (fail)
          go_wp2_with fail
          have HR4 : Hid (Rf p (w3.drewN nq) (z + 32) A n c kv out) := Lib.hid (by
            have := HR3.out.new ((Only.refl _ w3).drewN nq)
            rw [show z + 16 + 16 = z + 32 from by omega] at this
            exact this)
          have HO4 : Hid (Only (· = p.r) w (w3.drewN nq)) := Lib.hid (HO3.out.drewN nq)
          obtain ⟨w4, hw4⟩ : ∃ w4, w3.drewN nq = w4 := ⟨_, rfl⟩
          rw [hw4] at HR4 HO4 ⊢
          clear hw4 HR3 HO3 d2 d3
          have b0 := HR4.out.is.cell 0 rfl
          have b1 := HR4.out.is.cell 1 rfl
          obtain ⟨z2, hz2⟩ : ∃ z2, z + 32 = z2 := ⟨_, rfl⟩
          rw [hz2] at HR4 b1 HRX0
          have hz2n : z2 ≤ p.nB := by omega
          have e8k' : IntKind.i64.wrap (8 * (k : Int)) = ((8 * k : Nat) : Int) := by rw [IntWalk.i64_in _ (by omega)]; omega
          have esub : IntKind.i64.wrap ((p.nB : Int) - (z2 : Int)) = (p.nB : Int) - (z2 : Int) := IntWalk.i64_in _ (by omega)
          obtain ⟨k8, hk8⟩ : ∃ k8, 8 * k = k8 := ⟨_, rfl⟩
          rw [hk8] at e8k' HRX0
          have hk82 : k8 ≤ 524280 := by omega
          have hR := HRX0.out
          by_cases hend : p.nB < z2 + k8
          · rw [if_pos hend] at hR
            have HRX := Lib.hid hR
            have hgt : (p.nB : Int) - (z2 : Int) < (k8 : Int) := by omega
            clear hR HRX0
            go_quiet (fail)
            go_wp2
            go_ret
            rw [← HRX.out]
            exact ⟨rfl, (HO4.out.mono fun _ e => .inl e).drewN _, fun h => by cases h⟩
          · rw [if_neg hend] at hR
            have HRX1 := Lib.hid hR
            have hgt : ¬ (p.nB : Int) - (z2 : Int) < (k8 : Int) := by omega
            clear hR HRX0
            go_quiet (fail)
            have HR5 := Lib.hid (HR4.out.new ((Only.refl _ w4).drewN nq))
            have HO5 := Lib.hid (HO4.out.drewN nq)
            obtain ⟨w5, hw5⟩ : ∃ w5, w4.drewN nq = w5 := ⟨_, rfl⟩
            rw [hw5] at HR5 HO5 ⊢
            clear hw5 HR4 HO4 b0 b1
            go_wp2_with fail
            obtain ⟨g, off, eAB, _, _⟩ := HR5.out.bits 0 _ (bcells_at p.B 0 (by omega))
            have b0 := HR5.out.is.cell 0 rfl
            have b1 := HR5.out.is.cell 1 rfl
            have b2 := HR5.out.is.cell 2 rfl
            rw [eAB] at b0
            have hbits := HR5.out.bits
            rw [eAB] at hbits
            obtain ⟨AZ, hAZ⟩ : ∃ AZ, (if p.cB = z2 then some (⟨g, off, none⟩ : Addr) else some ⟨g, off + z2, none⟩) = AZ := ⟨_, rfl⟩
            obtain ⟨CZ, hCZ⟩ : ∃ CZ, p.cB - z2 = CZ := ⟨_, rfl⟩
            have hsees : Sees w5.drew AZ k8 ((p.B.drop z2).take k8) := by
              rw [← hAZ]
              by_cases hc : p.cB = z2
              · obtain rfl : k8 = 0 := by omega
                rw [List.take_zero]
                exact Sees.none_
              · rw [if_neg hc]
                exact Sees.mid (w := w5.drew) hbits hpl (by omega)
            have HTX := Lib.hid (rtext AZ k8 CZ _ w5.drew hsees (bits_take (bits_drop HP.out.bits z2) k8) (by omega))
            have HTT : Hid (∀ t : List UInt8, t.length = (k8 + 7) / 8 → le t = le2 ((p.B.drop z2).take k8) → t = by8 p.B z2 k ∧ t.length = k) := Lib.hid fun t h1 h2 => by
              have h3 : t.length = k := by omega
              refine ⟨text_by8 p.B HP.out.bits z2 k t (by omega) h3 ?_, h3⟩
              rw [hk8]
              exact h2
            have HFN : Hid (∀ (t : List UInt8) w6, t = by8 p.B z2 k → t.length = k → Only (fun _ => False) w5.drew w6 → (w6.cell? ⟨p.r, 0, none⟩ = some (.slice (some ⟨g, off, none⟩) p.nB p.cB) ∧ w6.cell? ⟨p.r, 1, none⟩ = some (.int .i64 (z2 : Nat))) ∧ w6.cell? ⟨p.r, 2, none⟩ = some (.slice A n c) ∧
                ∃ A9 c9 w9, (Builtin.append_ #[34, 9] 34 #[.slice A n c, .string ⟨t.toArray⟩]).run Tryz.prog w6 = .ok (.slice A9 (n + k) c9) w9 ∧ (w9.cell? ⟨p.r, 0, none⟩ = some (.slice (some ⟨g, off, none⟩) p.nB p.cB) ∧ w9.cell? ⟨p.r, 1, none⟩ = some (.int .i64 (z2 : Nat))) ∧ w9.cell? ⟨p.r, 2, none⟩ = some (.slice A n c) ∧ w9.frozen? ⟨p.r, 2, none⟩ = false ∧
                ∀ wS, wS = w9.setCell ⟨p.r, 2, none⟩ (.slice A9 (n + k) c9) → (wS.cell? ⟨p.r, 0, none⟩ = some (.slice (some ⟨g, off, none⟩) p.nB p.cB) ∧ wS.cell? ⟨p.r, 1, none⟩ = some (.int .i64 (z2 : Nat))) ∧ wS.frozen? ⟨p.r, 1, none⟩ = false ∧ DoneR p w A kv R (.returned (.int .i64 0)) (wS.setCell ⟨p.r, 1, none⟩ (.int .i64 (z2 + k8 : Nat)))) := Lib.hid fun t w6 ht htl o6 => by
              have h6 := (HR5.out.new ((Only.refl _ w5).drew)).new o6
              have c60 := h6.is.cell 0 rfl
              rw [eAB] at c60
              obtain ⟨A9, c9, w9, hrun, r1, r2, r3⟩ := run_append_row (P := Tryz.prog) (ty := 40) Tryz.underlying34 info5 h6.row (r := bcells t) (m := k) (by rw [bcells_length, htl]) (by
                have hsz : (⟨t.toArray⟩ : ByteArray).size = k := htl
                have := Src.text (P := Tryz.prog) Tryz.underlying9 w6 ⟨t.toArray⟩
                rw [hsz] at this
                simpa using this) (by decide) (by omega)
              have hap : bcells out ++ bcells t = bcells (out ++ t) := by simp [bcells]
              rw [hap] at r1
              have i9 := h6.is.only r2 (fun e => Nat.lt_irrefl _ (h6.an _ e))
              have c90 := i9.cell 0 rfl
              rw [eAB] at c90
              refine ⟨⟨c60, h6.is.cell 1 rfl⟩, h6.is.cell 2 rfl, A9, c9, w9, hrun, ⟨c90, i9.cell 1 rfl⟩, i9.cell 2 rfl, i9.frozen 2, ?_⟩
              rintro wS rfl
              obtain ⟨f1, f2, f3⟩ := h6.append r1 htl r2 r3
              have cS := f1.is.cell 0 rfl
              rw [eAB] at cS
              refine ⟨⟨cS, f1.is.cell 1 rfl⟩, f1.is.frozen 1, ?_⟩
              rw [← HRX1.out]
              have o6' : Only (· = p.r) w w6 := (HO5.out.drew).trans (o6.mono fun _ f => f.elim)
              refine ⟨rfl, ((o6'.mono fun _ e => .inl e).trans f2).trans ((Only.one _ p.r 1 _).mono fun _ e => .inl e), fun _ => ⟨A9, c9, ?_, fun j hj => (f3 j hj).imp id fun x => Nat.le_trans o6'.size x⟩⟩
              have hg := f1.go (z2 + k8)
              have el : (out ++ by8 p.B z2 k).length = n + k := by rw [List.length_append, HL.out, by8_length]
              simp only [el]
              rw [← ht]
              exact hg
            have e8k : IntKind.i64.wrap (8 * (k : Int)) = ((k8 : Nat) : Int) := e8k'
            have ezk : IntKind.i64.wrap ((z2 : Int) + (k8 : Int)) = ((z2 + k8 : Nat) : Int) := by rw [IntWalk.i64_in _ (by omega)]; omega
            have hz3 : z2 + k8 ≤ p.cB := by omega
            have s0 : w5.drew.cell? ⟨p.r, 0, none⟩ = some (.slice (some ⟨g, off, none⟩) p.nB p.cB) ∧ w5.drew.cell? ⟨p.r, 1, none⟩ = some (.int .i64 (z2 : Nat)) := ⟨b0, b1⟩
            obtain ⟨zk, hzk⟩ : ∃ zk, z2 + k8 = zk := ⟨_, rfl⟩
            rw [hzk] at ezk hz3 HFN
            have hzk2 : z2 ≤ zk := by omega
            have hzk3 : zk - z2 = k8 := by omega
            clear hbits hsees eAB HR5 HO5 HRX1
            refine Walk.region (fun W => W.cell? ⟨p.r, 0, none⟩ = some (.slice (some ⟨g, off, none⟩) p.nB p.cB) ∧ W.cell? ⟨p.r, 1, none⟩ = some (.int .i64 (z2 : Nat)))
              (.t 0 (.t 1 (.t 2 (.t 3 (.t 5 (.t 6 (.t 7 (.t 8 (.t 9 (.t 10 (.t 11 (.t 12 (.t 13 (.t 14 (.t 15 (.t 16 (.t 17 (.t 18 (.t 19 (.t 20 (.two 4 21 (.f 21 (.f 22 (.t 23 (.t 24 (.f 25 .nil))))) (.f 4 (.f 22 (.t 23 (.t 24 (.f 25 .nil)))))))))))))))))))))))))) (by kernel_rfl) (by kernel_rfl) (by kernel_rfl) (fun _ _ d _ _ h => by cases d <;> exact h) ?_
            refine Walk.take (.pointer (some ⟨p.r, 0, none⟩)) rfl s0 (fun _ hW => by kernel_rfl) ?_
            simp only [Act.put, List.setIfInBounds_toArray, List.set_cons_succ, List.set_cons_zero]
            refine Walk.take (.pointer (some ⟨p.r, 0, none⟩)) rfl s0 (fun _ hW => by kernel_rfl) ?_
            simp only [Act.put, List.setIfInBounds_toArray, List.set_cons_succ, List.set_cons_zero]
            refine Walk.take (.pointer (some ⟨p.r, 0, none⟩)) rfl s0 (fun _ hW => by kernel_rfl) ?_
            simp only [Act.put, List.setIfInBounds_toArray, List.set_cons_succ, List.set_cons_zero]
            refine Walk.take (.pointer (some ⟨p.r, 2, none⟩)) rfl s0 (fun _ hW => by kernel_rfl) ?_
            simp only [Act.put, List.setIfInBounds_toArray, List.set_cons_succ, List.set_cons_zero]
            refine Walk.take (.pointer (some ⟨p.r, 0, none⟩)) rfl s0 (fun _ hW => by kernel_rfl) ?_
            simp only [Act.put, List.setIfInBounds_toArray, List.set_cons_succ, List.set_cons_zero]
            refine Walk.take (.pointer (some ⟨p.r, 0, none⟩)) rfl s0 (fun _ hW => by kernel_rfl) ?_
            simp only [Act.put, List.setIfInBounds_toArray, List.set_cons_succ, List.set_cons_zero]
            refine Walk.take (.pointer (some ⟨p.r, 0, none⟩)) rfl s0 (fun _ hW => by kernel_rfl) ?_
            simp only [Act.put, List.setIfInBounds_toArray, List.set_cons_succ, List.set_cons_zero]
            refine Walk.take (.slice (some ⟨g, off, none⟩) p.nB p.cB) rfl s0 (fun _ hW => by obtain ⟨hw1, hw2⟩ := hW; go_simp) ?_
            simp only [Act.put, List.setIfInBounds_toArray, List.set_cons_succ, List.set_cons_zero]
            refine Walk.take (.pointer (some ⟨p.r, 0, none⟩)) rfl s0 (fun _ hW => by kernel_rfl) ?_
            simp only [Act.put, List.setIfInBounds_toArray, List.set_cons_succ, List.set_cons_zero]
            refine Walk.take (.pointer (some ⟨p.r, 0, none⟩)) rfl s0 (fun _ hW => by kernel_rfl) ?_
            simp only [Act.put, List.setIfInBounds_toArray, List.set_cons_succ, List.set_cons_zero]
            refine Walk.take (.pointer (some ⟨p.r, 1, none⟩)) rfl s0 (fun _ hW => by kernel_rfl) ?_
            simp only [Act.put, List.setIfInBounds_toArray, List.set_cons_succ, List.set_cons_zero]
            refine Walk.take (.int .i64 z2) rfl s0 (fun _ hW => by obtain ⟨hw1, hw2⟩ := hW; go_simp) ?_
            simp only [Act.put, List.setIfInBounds_toArray, List.set_cons_succ, List.set_cons_zero]
            refine Walk.take (.pointer (some ⟨p.r, 0, none⟩)) rfl s0 (fun _ hW => by kernel_rfl) ?_
            simp only [Act.put, List.setIfInBounds_toArray, List.set_cons_succ, List.set_cons_zero]
            refine Walk.take (.pointer (some ⟨p.r, 0, none⟩)) rfl s0 (fun _ hW => by kernel_rfl) ?_
            simp only [Act.put, List.setIfInBounds_toArray, List.set_cons_succ, List.set_cons_zero]
            refine Walk.take (.pointer (some ⟨p.r, 1, none⟩)) rfl s0 (fun _ hW => by kernel_rfl) ?_
            simp only [Act.put, List.setIfInBounds_toArray, List.set_cons_succ, List.set_cons_zero]
            refine Walk.take (.int .i64 z2) rfl s0 (fun _ hW => by obtain ⟨hw1, hw2⟩ := hW; go_simp) ?_
            simp only [Act.put, List.setIfInBounds_toArray, List.set_cons_succ, List.set_cons_zero]
            refine Walk.take (.int .i64 k) rfl s0 (fun _ hW => by kernel_rfl) ?_
            simp only [Act.put, List.setIfInBounds_toArray, List.set_cons_succ, List.set_cons_zero]
            refine Walk.take (.int .i64 k8) rfl s0 (fun _ hW => by go_simp; try exact e8k) ?_
            simp only [Act.put, List.setIfInBounds_toArray, List.set_cons_succ, List.set_cons_zero]
            refine Walk.take (.int .i64 zk) rfl s0 (fun _ hW => by go_simp; try exact ezk) ?_
            simp only [Act.put, List.setIfInBounds_toArray, List.set_cons_succ, List.set_cons_zero]
            refine Walk.take (.slice AZ k8 CZ) rfl s0 (fun _ hW => by go_simp; try (rw [← hAZ, ← hCZ]; simp [hzk3])) ?_
            simp only [Act.put, List.setIfInBounds_toArray, List.set_cons_succ, List.set_cons_zero]
            constructor
            · refine op_value (w' := w5.drew) (.slice A n c) rfl (by go_simp) ⟨s0, ?_⟩
              simp only [Act.put, List.setIfInBounds_toArray, List.set_cons_succ, List.set_cons_zero]
              refine op_call 10 #[.slice AZ k8 CZ] rfl (by kernel_rfl) (HTX.out.mono ?_)
              rintro e w6 ⟨t, rfl, t1, t2, o6⟩
              obtain ⟨t3, t4⟩ := HTT.out t t1 t2
              obtain ⟨s3, q2, A9, c9, w9, hrun, s4, q4, q5, hS⟩ := HFN.out t w6 t3 t4 o6
              refine ⟨_, rfl, s3, ?_⟩
              simp only [Act.put, List.setIfInBounds_toArray, List.set_cons_succ, List.set_cons_zero]
              refine op_value (w' := w9) (.slice A9 (n + k) c9) rfl (exec_append (.tmp 66) (.tmp 83) rfl rfl rfl hrun) ⟨s4, ?_⟩
              simp only [Act.put, List.setIfInBounds_toArray, List.set_cons_succ, List.set_cons_zero]
              refine Walk.take (.pointer (some ⟨p.r, 0, none⟩)) rfl s4 (fun _ hW => by kernel_rfl) ?_
              simp only [Act.put, List.setIfInBounds_toArray, List.set_cons_succ, List.set_cons_zero]
              refine Walk.take (.pointer (some ⟨p.r, 2, none⟩)) rfl s4 (fun _ hW => by kernel_rfl) ?_
              simp only [Act.put, List.setIfInBounds_toArray, List.set_cons_succ, List.set_cons_zero]
              obtain ⟨s5, z5, hfin⟩ := hS _ rfl
              refine op_skip (w' := w9.setCell ⟨p.r, 2, none⟩ (.slice A9 (n + k) c9)) rfl (by go_simp) ⟨s5, ?_⟩
              simp only [Act.put]
              show wpList _ _ _ _ _ _
              have HFI := Lib.hid hfin
              obtain ⟨y1, y2⟩ := s5
              obtain ⟨wS, hwS⟩ : ∃ wS, w9.setCell ⟨p.r, 2, none⟩ (.slice A9 (n + k) c9) = wS := ⟨_, rfl⟩
              rw [hwS] at y1 y2 z5 HFI
              try rw [hwS]
              clear hfin hS s3 s4 q2 q4 q5 hrun HTX HTT HFN o6 t1 t2 t3
              go_wp2
              go_ret
              exact HFI.out
            · refine op_call 10 #[.slice AZ k8 CZ] rfl (by kernel_rfl) (HTX.out.mono ?_)
              rintro e w6 ⟨t, rfl, t1, t2, o6⟩
              obtain ⟨t3, t4⟩ := HTT.out t t1 t2
              obtain ⟨s3, q2, A9, c9, w9, hrun, s4, q4, q5, hS⟩ := HFN.out t w6 t3 t4 o6
              refine ⟨_, rfl, s3, ?_⟩
              simp only [Act.put, List.setIfInBounds_toArray, List.set_cons_succ, List.set_cons_zero]
              refine op_value (w' := w6) (.slice A n c) rfl (by go_simp) ⟨s3, ?_⟩
              simp only [Act.put, List.setIfInBounds_toArray, List.set_cons_succ, List.set_cons_zero]
              refine op_value (w' := w9) (.slice A9 (n + k) c9) rfl (exec_append (.tmp 66) (.tmp 83) rfl rfl rfl hrun) ⟨s4, ?_⟩
              simp only [Act.put, List.setIfInBounds_toArray, List.set_cons_succ, List.set_cons_zero]
              refine Walk.take (.pointer (some ⟨p.r, 0, none⟩)) rfl s4 (fun _ hW => by kernel_rfl) ?_
              simp only [Act.put, List.setIfInBounds_toArray, List.set_cons_succ, List.set_cons_zero]
              refine Walk.take (.pointer (some ⟨p.r, 2, none⟩)) rfl s4 (fun _ hW => by kernel_rfl) ?_
              simp only [Act.put, List.setIfInBounds_toArray, List.set_cons_succ, List.set_cons_zero]
              obtain ⟨s5, z5, hfin⟩ := hS _ rfl
              refine op_skip (w' := w9.setCell ⟨p.r, 2, none⟩ (.slice A9 (n + k) c9)) rfl (by go_simp) ⟨s5, ?_⟩
              simp only [Act.put]
              show wpList _ _ _ _ _ _
              have HFI := Lib.hid hfin
              obtain ⟨y1, y2⟩ := s5
              obtain ⟨wS, hwS⟩ : ∃ wS, w9.setCell ⟨p.r, 2, none⟩ (.slice A9 (n + k) c9) = wS := ⟨_, rfl⟩
              rw [hwS] at y1 y2 z5 HFI
              try rw [hwS]
              clear hfin hS s3 s4 q2 q4 q5 hrun HTX HTT HFN o6 t1 t2 t3
              go_wp2
              go_ret
              exact HFI.out
end Go.Proofs.YtjlkjebmilfgoaaGreat

/- Layer 8, the document: a block, and a stream. -/
namespace Go.Proofs.YtjlkjebmilfgoaaGreat
open Go.RowKit

/-- The document's reader, with its kinds. -/
structure DAt (p : RP) (w : World) (a : Nat) (A : Option Addr) (n c : Nat) (Ak : Option Addr) (nk ck : Nat) (out : List UInt8) (ks : List Nat) (wx : World) : Prop where
  rf : Rf p wx a A n c (.slice Ak nk ck) out
  krow : Row 3 wx Ak nk ck (ints ks)
  klen : ks.length = nk
  only : Only (fun _ => False) w wx
  rn : w.heap.size ≤ p.r
  kn : ∀ j, Lies Ak j → p.r < j
  kfar : ∀ j, Lies Ak j → ¬ Lies A j
section
variable {p : RP} {w wx wy : World} {a n c nk ck : Nat} {A Ak : Option Addr} {out : List UInt8} {ks : List Nat}
theorem DAt.read (h : DAt p w a A n c Ak nk ck out ks wx) (k : Only (· = p.r) wx wy) {a2 : Nat} (hr : Rf p wy a2 A n c (.slice Ak nk ck) out) : DAt p w a2 A n c Ak nk ck out ks wy :=
  ⟨hr, h.krow.only k (fun j hj e => by have := h.kn j hj; omega), h.klen, h.only.andThen k (fun j e => .inr (by have := h.rn; omega)), h.rn, h.kn, h.kfar⟩
theorem DAt.bad (h : DAt p w a A n c Ak nk ck out ks wx) {r : Ans} {e : Ending} (hd : DoneR p wx A (.slice Ak nk ck) r e wy) : Only (fun _ => False) w wy := by
  refine h.only.andThen hd.2.1 ?_
  have h1 := h.rn
  rintro j (e | e)
  · exact .inr (by omega)
  · exact .inr (by have := h.rf.an j e; omega)
theorem DAt.next (h : DAt p w a A n c Ak nk ck out ks wx) {r : Ans} {e : Ending} (hd : DoneR p wx A (.slice Ak nk ck) r e wy) (h0 : r.1 = 0) : ∃ A2 c2, DAt p w r.2.1 A2 r.2.2.length c2 Ak nk ck r.2.2 ks wy := by
  have hon := h.bad hd
  obtain ⟨_, ho, hk⟩ := hd
  obtain ⟨A2, c2, g1, g3⟩ := hk h0
  have hkl := h.krow.lies
  refine ⟨A2, c2, g1, h.krow.only ho ?_, h.klen, hon, h.rn, h.kn, fun j hj e => ?_⟩
  · rintro j hj (e | e)
    · have := h.kn j hj; omega
    · exact h.kfar j hj e
  · have := hkl j hj
    exact (g3 j e).elim (h.kfar j hj) (fun x => by omega)
theorem DAt.kind (h : DAt p w a A n c Ak nk ck out ks wx) {w2 : World} {A2 : Option Addr} {c2 x : Nat} (hr : Row 3 w2 A2 (nk + 1) c2 (ints ks ++ ints [x])) (ho : Only (Lies Ak) wx w2) (ha : A2 = Ak ∨ A2 = some ⟨wx.heap.size, 0, none⟩) :
    DAt p w a A n c A2 (nk + 1) c2 out (ks ++ [x]) (w2.setCell ⟨p.r, 4, none⟩ (.slice A2 (nk + 1) c2)) ∧ w2.cell? ⟨p.r, 4, none⟩ = some (.slice Ak nk ck) ∧ w2.frozen? ⟨p.r, 4, none⟩ = false := by
  have hlies : ∀ j, Lies A2 j → Lies Ak j ∨ wx.heap.size ≤ j := by
    intro j hj
    rcases ha with e | e
    · exact .inl (e ▸ hj)
    · obtain ⟨ad, e1, e2⟩ := hj
      rw [e] at e1
      obtain rfl := Option.some.inj e1
      exact .inr (Nat.le_of_eq e2)
  have hrl := h.rf.is.lt
  have hal := h.rf.row.lies
  have hkr : ∀ j, Lies Ak j → ¬ j ≤ p.r := fun j hj => Nat.not_le_of_lt (h.kn j hj)
  have hf2 := h.rf.keep ho (fun j hj e => hkr j e hj) (fun j hj e => h.kfar j e hj)
  have ow := Only.one w2 p.r 4 (.slice A2 (nk + 1) c2)
  have hkn : ∀ j, Lies A2 j → p.r < j := fun j hj => (hlies j hj).elim (h.kn j) (fun x => by omega)
  refine ⟨⟨⟨hf2.is.set 4 _, hf2.bits.keep (ow.mono fun j e => Nat.le_of_eq e.symm), hf2.row.only ow (fun j hj e => by have := h.rf.an j hj; omega), hf2.len, hf2.an⟩, ?_, by rw [List.length_append, h.klen]; rfl, (h.only.andThen ho fun j hj => .inr (by have := h.kn j hj; have := h.rn; omega)).andThen ow (fun j e => .inr (by have := h.rn; omega)), h.rn, hkn, fun j hj e => ?_⟩, hf2.is.cell 4 rfl, hf2.is.frozen 4⟩
  · rw [ints_append]
    exact hr.only ow fun j hj e => by have := hkn j hj; omega
  · have := hal j e
    exact (hlies j hj).elim (fun x => h.kfar j x e) (fun x => by omega)
end

def DBlkPost (p : RP) (w0 : World) (ks : List Nat) (last : Bool) (kind : Nat) (r : Ans) (e : Ending) (w' : World) : Prop :=
  Only (fun _ => False) w0 w' ∧ if r.1 ≠ 0 then ∃ v, e = .returned (.tuple #[v, .int .i64 r.1]) else e = .returned (.tuple #[.bool last, .int .i64 0]) ∧ ∃ A c Ak ck, DAt p w0 r.2.1 A r.2.2.length c Ak (ks.length + 1) ck r.2.2 (ks ++ [kind]) w'

set_option maxRecDepth 100000 in
set_option maxHeartbeats 8000000 in
theorem dblock (p : RP) (hp : RB p) (hcap : p.nB ≤ p.cB) (h8 : ∃ q, p.nB = 8 * q) (hmost : p.most ≤ 100000) (a : Nat) (A : Option Addr) (n c : Nat) (Ak : Option Addr) (nk ck : Nat) (out : List UInt8) (ks : List Nat) (w0 w : World) (h : DAt p w0 a A n c Ak nk ck out ks w) (ha : a ≤ p.nB) (hn : n ≤ 100000) (hnk : nk ≤ 1000000)
    (R : Ans) (hR : (if p.nB < a + 3 then ((3 : Nat), a, out) else mBlock p.B p.most (nm p.B (a + 1) 2) (a + 3) out) = R) :
    Calls Tryz.prog 40 #[.pointer (some ⟨p.r, 0, none⟩)] w (DBlkPost p w0 ks (decide (nm p.B a 1 = 1)) (nm p.B (a + 1) 2) R) := by
  have hpl := hp.len
  have hle := hp.le
  have HN : Hid (∀ v wx a' A' n' c' kv' o', Rf p wx a' A' n' c' kv' o' → a' ≤ p.nB → v ≤ 16 → Calls Tryz.prog 65 #[.pointer (some ⟨p.r, 0, none⟩), .int .i64 (v : Nat)] wx (DVal p wx A' n' c' kv' o' (mNum p.B a' v))) := Lib.hid fun v wx a' A' n' c' kv' o' h' ha' hv => dbits p hp a' v A' n' c' kv' o' wx h' ha' hv
  unfold mNum at HN
  rw [hpl] at HN
  have HN1 := Lib.hid (HN.out 1 w a A n c _ out h.rf ha (by decide))
  have HR := Lib.hid hR
  have HP := Lib.hid hp
  have H := Lib.hid h
  have HH8 := Lib.hid h8
  have hklen := h.klen
  clear h hp hR h8
  go_enter Tryz.func40, Tryz.ntmps40
  go_wp2_with fail
  refine HN1.out.mono ?_
  rintro e w1 ⟨he1, ho1, hr1⟩
  have HO1 : Hid (Only (fun _ => False) w0 w1) := Lib.hid (H.out.only.andThen ho1 fun j e => .inr (by have := H.out.rn; omega))
  by_cases h1 : p.nB < a + 1
  · rw [if_pos h1] at he1
    subst he1
    have hR := HR.out
    rw [if_pos (by omega)] at hR
    have HRR := Lib.hid hR
    clear hR ho1 hr1 HR HN HN1
    go_wp2
    go_ret2
    exact ⟨HO1.out, by rw [← HRR.out]; exact ⟨_, rfl⟩⟩
  · rw [if_neg h1] at he1 hr1
    subst he1
    have H1 := Lib.hid (H.out.read ho1 (hr1 rfl))
    have lt1 := nm_lt p.B a 1
    obtain ⟨lst, hlst⟩ : ∃ k, nm p.B a 1 = k := ⟨_, rfl⟩
    have HLST := Lib.hid hlst
    rw [hlst] at lt1 ⊢
    have HN2 := Lib.hid (HN.out 2 w1 (a + 1) A n c _ out H1.out.rf (by omega) (by decide))
    clear ho1 hr1 HN1 hlst
    go_wp2_with fail
    refine HN2.out.mono ?_
    rintro e w2 ⟨he2, ho2, hr2⟩
    have HO2 : Hid (Only (fun _ => False) w0 w2) := Lib.hid (HO1.out.andThen ho2 fun j e => .inr (by have := H.out.rn; omega))
    by_cases h3 : p.nB < a + 3
    · rw [if_pos (by omega)] at he2
      subst he2
      have hR := HR.out
      rw [if_pos h3] at hR
      have HRR := Lib.hid hR
      clear hR ho2 hr2 HR HN HN2
      go_wp2
      go_ret2
      exact ⟨HO2.out, by rw [← HRR.out]; exact ⟨_, rfl⟩⟩
    · rw [if_neg (by omega)] at he2 hr2
      subst he2
      have h2 := H1.out.read ho2 (hr2 rfl)
      rw [show a + 1 + 2 = a + 3 from by omega] at h2
      have lt2 := nm_lt p.B (a + 1) 2
      have hR := HR.out
      rw [if_neg h3] at hR
      obtain ⟨kind, hkind⟩ : ∃ k, nm p.B (a + 1) 2 = k := ⟨_, rfl⟩
      have HKD := Lib.hid hkind
      rw [hkind] at lt2 hR ⊢
      have H2 := Lib.hid h2
      have g4 := h2.rf.is.cell 4 rfl
      have oa : Only (fun _ => False) w2 (w2.alloc (.cells #[.int .i64 (kind : Nat)] 3)) := (Only.refl _ w2).alloc _
      have HAW := Lib.hid (h2.read (oa.mono fun _ f => f.elim) (h2.rf.new oa))
      have HSR := Lib.hid (Src.oneInt Tryz.underlying44 w2 .i64 kind 1 3)
      obtain ⟨wy, hwy⟩ : ∃ wy, w2.alloc (.cells #[.int .i64 (kind : Nat)] 3) = wy := ⟨_, rfl⟩
      rw [hwy] at HAW HSR
      have HRR := Lib.hid hR
      have ha3 : a + 3 ≤ p.nB := by omega
      clear h2 ho2 hr2 HR HN2 oa hR HO1 H1 HN hkind HO2
      go_upto_region 7 with fail
      go_cut [] (fun wx => ∃ A9 c9, Hid (DAt p w0 (a + 3) A n c A9 (nk + 1) c9 out (ks ++ [kind]) wx))
      case first =>
        go_wp2_with (at_builtin
                     refine wpList_append_row rfl (.tmp 33) (.tmp 35) 44 44 3 rfl Tryz.underlying44 info3 Ak nk ck 1 (ints ks) (ints [kind]) (.slice (some ⟨w2.heap.size, 0, none⟩) 1 1) (by rfl) (by rfl) HAW.out.krow rfl HSR.out (by omega) (by omega) ?_
                     intro A9 c9 w9 hrow9 honly9 hlies9
                     obtain ⟨h9, y1, y2⟩ := HAW.out.kind hrow9 honly9 hlies9
                     have H9 := Lib.hid h9
                     clear hrow9 honly9 hlies9 h9)
        go_meet
        exact ⟨A9, c9, H9⟩
      case rest =>
        obtain ⟨A9, c9, H9⟩ := hcut
        clear HAW HSR H2 g4
        have HFI : Hid (∀ w4 w5 e r, Only (· = p.r) wc w4 → Rf p w4 (a + 3) A n c (.slice A9 (nk + 1) c9) out ∨ True → DoneR p w4 A (.slice A9 (nk + 1) c9) r e w5 → r = R → DBlkPost p w0 ks (decide (nm p.B a 1 = 1)) (nm p.B (a + 1) 2) R (.returned (.tuple #[.bool (decide (lst = 1)), .int .i64 r.1])) w5) := Lib.hid fun w4 w5 e r ho4 _ hd hr => by
          subst hr
          have hd' : DoneR p wc A (.slice A9 (nk + 1) c9) r e w5 := by
            obtain ⟨q1, q2, q3⟩ := hd
            refine ⟨q1, (ho4.mono fun _ e => .inl e).trans q2, fun h0 => ?_⟩
            obtain ⟨A', c', g1, g2⟩ := q3 h0
            exact ⟨A', c', g1, fun j hj => (g2 j hj).imp id fun x => Nat.le_trans ho4.size x⟩
          refine ⟨H9.out.bad hd', ?_⟩
          by_cases h0 : r.1 = 0
          · rw [if_neg (by simpa using h0), h0, HLST.out, HKD.out]
            obtain ⟨A2, c2, h2⟩ := H9.out.next hd' h0
            refine ⟨rfl, A2, c2, A9, c9, ?_⟩
            rw [hklen]
            exact h2
          · rw [if_pos h0]
            exact ⟨_, rfl⟩
        have hbb : ((lst : Int) == 1) = decide (lst = 1) := by rw [Bool.eq_iff_iff]; simp; omega
        have hbd : decide ((lst : Int) = 1) = decide (lst = 1) := by rw [Bool.eq_iff_iff]; simp; omega
        obtain ⟨Lb, hLb⟩ : ∃ Lb, decide (lst = 1) = Lb := ⟨_, rfl⟩
        rw [hLb] at hbb hbd HFI
        have HOC := Lib.hid H9.out.only
        clear hLb lt1
        obtain rfl | rfl | rfl | rfl : kind = 0 ∨ kind = 1 ∨ kind = 2 ∨ kind = 3 := by omega
        · have hR := HRR.out
          unfold mBlock at hR
          rw [if_pos rfl] at hR
          have HS := Lib.hid (dstored p HP.out hcap HH8.out (a + 3) A n c _ out wc H9.out.rf ha3 hn)
          rw [hR] at HS
          clear hR
          go_wp2_with fail
          refine HS.out.mono ?_
          intro e w5 hd
          have HF := Lib.hid (HFI.out wc w5 e R (Only.refl _ _) (.inr trivial) hd rfl)
          obtain ⟨rfl, _⟩ := hd
          clear HS
          go_wp2
          go_ret2
          exact HF.out
        · have hR := HRR.out
          unfold mBlock at hR
          rw [if_neg (show ¬ ((1 : Nat) = 0) from by decide), if_pos rfl] at hR
          have HFX := Lib.hid (dfixed wc)
          go_wp2_with fail
          refine HFX.out.mono ?_
          rintro e w4 ⟨A1, c1, A2, c2, rfl, s1, s2, o4, l1, l2⟩
          have o4' : Only (· = p.r) wc w4 := o4.mono fun _ f => f.elim
          have hrl := H9.out.rf.is.lt
          have hal := H9.out.rf.row.lies
          have hCO := dcoded p HP.out (a + 3) A n c _ out _ A1 A2 288 c1 32 c2 fixA fixB w4 (H9.out.rf.new o4) ha3 s1 s2 fixA_length (by decide +kernel)
            (fun j hj hm => by
              have hlo : wc.heap.size ≤ j := hj.elim (l1 j) (l2 j)
              rcases hm with e | e
              · omega
              · have := hal j e; omega)
            (fun j hj => by
              rcases hj with ⟨ad, e, rfl⟩ | ⟨ad, e, rfl⟩
              · obtain ⟨b, off, e1, e2, _⟩ := s1 0 _ (ints_at fixA 0 (by rw [fixA_length]; decide))
                rw [e] at e1
                obtain rfl := Option.some.inj e1
                exact e2
              · obtain ⟨b, off, e1, e2, _⟩ := s2 0 _ (ints_at fixB 0 (by decide +kernel))
                rw [e] at e1
                obtain rfl := Option.some.inj e1
                exact e2)
            lens_fixA lens_fixB (by rw [kd_fixA]) (by rw [kd_fixB]) hn hmost
          rw [hpl] at hR
          rw [hR] at hCO
          have HCO := Lib.hid hCO
          have HFJ : Hid (∀ w5 e, DoneR p w4 A (.slice A9 (nk + 1) c9) R e w5 → DBlkPost p w0 ks (decide (nm p.B a 1 = 1)) (nm p.B (a + 1) 2) R (.returned (.tuple #[.bool Lb, .int .i64 R.1])) w5) := Lib.hid fun w5 e hd => HFI.out w4 w5 e R o4' (.inr trivial) hd rfl
          clear hR s1 s2 o4 l1 l2 hCO o4' HFX hal
          go_wp2_with fail
          refine HCO.out.mono ?_
          intro e w5 hd
          have HF := Lib.hid (HFJ.out w5 e hd)
          obtain ⟨rfl, _⟩ := hd
          clear HCO
          go_wp2
          go_ret2
          exact HF.out
        · have hR := HRR.out
          unfold mBlock at hR
          rw [if_neg (show ¬ ((2 : Nat) = 0) from by decide), if_neg (show ¬ ((2 : Nat) = 1) from by decide), if_pos rfl] at hR
          have HFX := Lib.hid (dfixed wc)
          have hok := mOwn_ok p.B (a + 3)
          rw [hpl] at hok
          have HOW : Hid (∀ w4, Only (fun _ => False) wc w4 → Calls Tryz.prog 67 #[.pointer (some ⟨p.r, 0, none⟩)] w4 (DOwnPost p w4 A n c (.slice A9 (nk + 1) c9) out (mOwn p.B (a + 3)))) := Lib.hid fun w4 o4 => down p HP.out (a + 3) A n c _ out w4 (H9.out.rf.new o4) ha3
          unfold DOwnPost at HOW
          obtain ⟨⟨x, a5, la, lb⟩, hq⟩ : ∃ q, mOwn p.B (a + 3) = q := ⟨_, rfl⟩
          rw [hq] at HOW hR hok
          simp only at hR hok
          clear hq
          go_wp2_with fail
          refine HFX.out.mono ?_
          rintro e w4 ⟨A1, c1, A2, c2, rfl, s1, s2, o4, l1, l2⟩
          have HO4 := Lib.hid o4
          clear s1 s2 l1 l2 o4 HFX
          go_wp2_with fail
          refine (HOW.out w4 HO4.out).mono ?_
          rintro e w5 ⟨ho5, hif⟩
          have o5' : Only (· = p.r) wc w5 := (HO4.out.mono fun _ f => f.elim).trans ho5
          by_cases hx : x = 0
          · subst hx
            rw [if_neg (by simp)] at hif hR
            obtain ⟨B1, n1, d1, B2, n2, d2, rfl, hrf, s1, s2, hn1, hn2, hL1, hL2, k1, k2, hlz⟩ := hif
            obtain ⟨m1, m2⟩ := hok rfl
            have hrl := H9.out.rf.is.lt
            have hal := H9.out.rf.row.lies
            have hs4 := HO4.out.size
            have hCO := dcoded p HP.out a5 A n c _ out _ B1 B2 n1 d1 n2 d2 la lb w5 hrf m2 s1 s2 hn1 hn2
              (fun j hj hm => by
                have hlo := (hlz j hj).1
                rcases hm with e | e
                · omega
                · have := hal j e; omega)
              (fun j hj => (hlz j hj).2) hL1 hL2 k1 k2 hn hmost
            rw [hpl] at hR
            rw [hR] at hCO
            have HCO := Lib.hid hCO
            have HFJ : Hid (∀ w6 e, DoneR p w5 A (.slice A9 (nk + 1) c9) R e w6 → DBlkPost p w0 ks (decide (nm p.B a 1 = 1)) (nm p.B (a + 1) 2) R (.returned (.tuple #[.bool Lb, .int .i64 R.1])) w6) := Lib.hid fun w6 e hd => HFI.out w5 w6 e R o5' (.inr trivial) hd rfl
            clear hR s1 s2 ho5 o5' hCO hal hlz hL1 hL2 k1 k2 hrf HOW
            go_wp2_with fail
            refine HCO.out.mono ?_
            intro e w6 hd
            have HF := Lib.hid (HFJ.out w6 e hd)
            obtain ⟨rfl, _⟩ := hd
            clear HCO
            go_wp2
            go_ret2
            exact HF.out
          · rw [if_pos hx] at hif hR
            subst hif
            have hx2 : ¬ (x : Int) = 0 := by omega
            have HRX := Lib.hid hR
            have HO5 : Hid (Only (fun _ => False) w0 w5) := Lib.hid (HOC.out.andThen o5' fun j e => .inr (by have := H9.out.rn; omega))
            clear hR ho5 o5' HOW
            go_wp2
            go_ret2
            exact ⟨HO5.out, by rw [← HRX.out, if_pos hx]; exact ⟨_, rfl⟩⟩
        · have hR := HRR.out
          unfold mBlock at hR
          rw [if_neg (show ¬ ((3 : Nat) = 0) from by decide), if_neg (show ¬ ((3 : Nat) = 1) from by decide), if_neg (show ¬ ((3 : Nat) = 2) from by decide)] at hR
          have HRX := Lib.hid hR
          clear hR
          go_wp2
          go_ret2
          exact ⟨HOC.out, by rw [← HRX.out]; exact ⟨_, rfl⟩⟩
end Go.Proofs.YtjlkjebmilfgoaaGreat

/- Layer 8, the document: Stream and All. -/
namespace Go.Proofs.YtjlkjebmilfgoaaGreat
open Go.RowKit

def DStrPost (w : World) (r : Nat × Nat × List UInt8 × List Nat) (e : Ending) (w' : World) : Prop := ∃ Ak ck, e = .returned (.tuple #[.string (mText r), .int .i64 (mTaken r : Nat), .slice Ak (mKinds r).length ck, .int .i64 r.1]) ∧ See w' w'.heap.size Ak (ints (mKinds r)) ∧ Only (fun _ => False) w w'

set_option maxRecDepth 100000 in
set_option maxHeartbeats 8000000 in
theorem dstream (s : ByteArray) (most : Int) (w : World) (hs : s.size ≤ 100000) (hmost : most ≤ 100000) :
    Calls Tryz.prog 19 #[.string s, .int .i64 most] w (DStrPost w (mStream (bitsOf s.data.toList) most)) := by
  unfold mStream
  rw [bits_len]
  obtain ⟨R, hR⟩ : ∃ r, mStr (bitsOf s.data.toList) most (8 * s.size + 1) 0 [] [] = r := ⟨_, rfl⟩
  rw [hR]
  have hokR := mStr_ok (bitsOf s.data.toList) most 100000 (by omega) (8 * s.size + 1) 0 [] [] (Nat.zero_le _) (Nat.zero_le _)
  rw [hR, bits_len] at hokR
  have HOK := Lib.hid hokR
  have HOF := Lib.hid (of s w (by omega))
  have hmin : min most 4194304 = most := by omega
  have HR := Lib.hid hR
  clear hR hokR
  go_enter Tryz.func19, Tryz.ntmps19
  go_wp2_with fail
  refine HOF.out.mono ?_
  rintro e w1 ⟨AB, cB, rfl, hm⟩
  have hcap : 8 * s.size ≤ cB := by
    rcases hm.1.form with ⟨_, h1, _, _⟩ | ⟨g, cur, _, _, h3, _⟩
    · omega
    · exact h3
  have hseeB : See w1 w1.heap.size AB (bcells (bitsOf s.data.toList)) := by
    intro i v hv
    have hi : i < 8 * s.size := by
      rcases Nat.lt_or_ge i (8 * s.size) with h | h
      · exact h
      · rw [List.getElem?_eq_none (by rw [bcells_length, bits_len]; exact h)] at hv; cases hv
    obtain ⟨g, hA, hc, _⟩ := hm.1.cell hi
    refine ⟨g, 0, hA, cell_lt hc, ?_⟩
    rw [Nat.zero_add, hc, ← hv]
    simp [bcells, bits_len, hi]
  have ho1 := hm.2.1
  obtain ⟨wd, hwd⟩ : ∃ wd, w1.alloc (.cells #[.slice AB (8 * s.size) cB, .int .i64 0, .slice none 0 0, .int .i64 most, .slice none 0 0] 86) = wd := ⟨_, rfl⟩
  have hod : Only (fun _ => False) w1 wd := by rw [← hwd]; exact (Only.refl _ w1).alloc _
  obtain ⟨p, hp⟩ : ∃ p : RP, p = ⟨w1.heap.size, AB, 8 * s.size, cB, bitsOf s.data.toList, most⟩ := ⟨_, rfl⟩
  have hpr : p.r = w1.heap.size := by rw [hp]
  have hpB : p.B = bitsOf s.data.toList := by rw [hp]
  have hpn : p.nB = 8 * s.size := by rw [hp]
  have hpm : p.most = most := by rw [hp]
  have hpc : p.cB = cB := by rw [hp]
  have hpA : p.AB = AB := by rw [hp]
  have hno : ∀ j, ¬ Lies none j := by rintro j ⟨ad, e, _⟩; cases e
  have hD : DAt p w 0 none 0 0 none 0 0 [] [] wd := by
    refine ⟨⟨?_, ?_, Row.nil 5 wd, rfl, fun j hj => (hno j hj).elim⟩, Row.nil 3 wd, rfl, ho1.trans hod, by rw [hpr]; exact ho1.size, fun j hj => (hno j hj).elim, fun j hj => (hno j hj).elim⟩
    · rw [hpr, hpA, hpn, hpc, hpm, ← hwd]
      exact Is.new w1 86 [.slice AB (8 * s.size) cB, .int .i64 0, .slice none 0 0, .int .i64 most, .slice none 0 0]
    · rw [hpr, hpA, hpB]
      exact hseeB.new hod
  have HD := Lib.hid hD
  have HRB : Hid (RB p) := Lib.hid ⟨by rw [hpB]; exact bitsOf_bits _, by rw [hpB, hpn, bits_len], by rw [hpn]; omega⟩
  have HBL : Hid (∀ a A n c Ak nk ck out ks wx, DAt p w a A n c Ak nk ck out ks wx → a ≤ 8 * s.size → n ≤ 100000 → nk ≤ 1000000 → ∀ r, (if 8 * s.size < a + 3 then ((3 : Nat), a, out) else mBlock (bitsOf s.data.toList) most (nm (bitsOf s.data.toList) (a + 1) 2) (a + 3) out) = r →
      Calls Tryz.prog 40 #[.pointer (some ⟨w1.heap.size, 0, none⟩)] wx (DBlkPost p w ks (decide (nm (bitsOf s.data.toList) a 1 = 1)) (nm (bitsOf s.data.toList) (a + 1) 2) r)) := Lib.hid fun a A n c Ak nk ck out ks wx hda ha hn hnk r hr => by
    have := dblock p HRB.out (by rw [hpn, hpc]; exact hcap) ⟨s.size, hpn⟩ (by rw [hpm]; exact hmost) a A n c Ak nk ck out ks w wx hda (by rw [hpn]; exact ha) hn hnk r (by rw [hpn, hpB, hpm]; exact hr)
    rw [hpr, hpB] at this
    exact this
  have HCE : Hid (∀ a A n c Ak nk ck out ks wx, DAt p w a A n c Ak nk ck out ks wx → wx.cell? ⟨w1.heap.size, 1, none⟩ = some (.int .i64 (a : Nat)) ∧ wx.cell? ⟨w1.heap.size, 2, none⟩ = some (.slice A n c) ∧ wx.cell? ⟨w1.heap.size, 4, none⟩ = some (.slice Ak nk ck)) := Lib.hid fun a A n c Ak nk ck out ks wx hda => by
    have h := hda.rf.is
    rw [hpr] at h
    exact ⟨h.cell 1 rfl, h.cell 2 rfl, h.cell 4 rfl⟩
  obtain ⟨rr, hrr⟩ : ∃ rr, w1.heap.size = rr := ⟨_, rfl⟩
  rw [hrr] at HBL HCE
  clear hm hcap hseeB ho1 hod hD hp hpr hpB hpn hpm hpc hpA hno HOF HRB
  go_wp2_with fail
  go_loopg [9, 10] (8 * s.size + 1) (fun gk u1 u2 wx => ∃ (a : Nat) (A : Option Addr) (n c : Nat) (Ak : Option Addr) (nk ck : Nat) (out : List UInt8) (ks : List Nat), a ≤ 8 * s.size ∧ 8 * s.size < a + gk ∧ n ≤ 100000 ∧ nk + gk ≤ 1000000 ∧ Hid (DAt p w a A n c Ak nk ck out ks wx) ∧ Hid (mStr (bitsOf s.data.toList) most gk a out ks = R))
  case atStart => exact ⟨0, _, 0, 0, _, 0, 0, [], [], by omega, by omega, by omega, by omega, HD, HR⟩
  case round =>
    clear HD HR hwd
    obtain ⟨a, A, n, c, Ak, nk, ck, out, ks, ha, hgk, hn, hnk, HS, HR0⟩ := hrel
    obtain ⟨f, rfl⟩ : ∃ f, gk = f + 1 := ⟨gk - 1, by omega⟩
    have hm := HR0.out
    rw [mStr_step, bits_len] at hm
    obtain ⟨⟨x, a4, o4⟩, hq⟩ : ∃ q, (if 8 * s.size < a + 3 then ((3 : Nat), a, out) else mBlock (bitsOf s.data.toList) most (nm (bitsOf s.data.toList) (a + 1) 2) (a + 3) out) = q := ⟨_, rfl⟩
    have HB := Lib.hid (HBL.out a A n c Ak nk ck out ks wr HS.out ha hn (by omega) _ hq)
    unfold DBlkPost at HB
    have hbo := mBlock_ok (bitsOf s.data.toList) most 100000 (nm (bitsOf s.data.toList) (a + 1) 2) (a + 3) out (by omega)
    rw [bits_len] at hbo
    have HKL := Lib.hid HS.out.klen
    have HOL := Lib.hid HS.out.rf.len
    obtain ⟨kind, hkind⟩ : ∃ k, nm (bitsOf s.data.toList) (a + 1) 2 = k := ⟨_, rfl⟩
    obtain ⟨lst, hlst⟩ : ∃ k, nm (bitsOf s.data.toList) a 1 = k := ⟨_, rfl⟩
    rw [hkind] at hm hbo HB hq
    rw [hlst] at hm HB
    obtain ⟨Lb, hLb⟩ : ∃ Lb, decide (lst = 1) = Lb := ⟨_, rfl⟩
    rw [hLb] at HB
    have HLB := Lib.hid hLb
    by_cases hx : x = 0
    · subst hx
      have h3 : ¬ 8 * s.size < a + 3 := fun h => by rw [if_pos h] at hq; cases hq
      rw [if_neg h3] at hq hm
      rw [hq] at hm hbo
      simp only at hm hbo
      rw [if_neg (by simp)] at hm
      obtain ⟨n1, n2, n3⟩ := hbo (by omega) (by rw [HOL.out]; exact hn) trivial
      have HM := Lib.hid hm
      clear hm hq hkind hlst HR0 hbo hLb
      go_wp2_with fail
      refine HB.out.mono ?_
      rintro e w4 ⟨ho4, hif⟩
      rw [if_neg (by simp)] at hif
      obtain ⟨rfl, A4, c4, Ak4, ck4, h4⟩ := hif
      rw [HKL.out] at h4
      have H4 := Lib.hid h4
      clear ho4 HB HS h4
      by_cases hl1 : lst = 1
      · have hLb2 : Lb = true := by rw [← HLB.out]; simpa using hl1
        subst hLb2
        have hm := HM.out
        rw [if_pos hl1] at hm
        obtain ⟨k1, k2, k3⟩ := HCE.out _ _ _ _ _ _ _ _ _ w4 H4.out
        have HT : Hid (∀ k, (convert 34 9 (.slice A4 o4.length c4)).run Tryz.prog (w4.drewN k) = .ok (.string ⟨o4.toArray⟩) (w4.drewN k)) := Lib.hid fun k => (H4.out.rf.row.drewN k).text5 rfl
        have HP : Hid (∀ k, DStrPost w R (.returned (.tuple #[.string ⟨o4.toArray⟩, .int .i64 ((a4 + 7) / 8 : Nat), .slice Ak4 (nk + 1) ck4, .int .i64 0])) (w4.drewN k)) := Lib.hid fun k => by
          rw [← hm]
          have e : (ks ++ [kind]).length = nk + 1 := H4.out.klen
          refine ⟨Ak4, ck4, ?_, H4.out.krow.see, H4.out.only.drewN k⟩
          show _ = Ending.returned (.tuple #[.string ⟨o4.toArray⟩, .int .i64 ((a4 + 7) / 8 : Nat), .slice Ak4 (ks ++ [kind]).length ck4, .int .i64 0])
          rw [e]
        obtain ⟨L4, hL4⟩ : ∃ L, o4.length = L := ⟨_, rfl⟩
        rw [hL4] at k2 HT
        obtain ⟨T, hT⟩ : ∃ T : ByteArray, ⟨o4.toArray⟩ = T := ⟨_, rfl⟩
        rw [hT] at HT HP
        have ht := HT.out
        have e7 : IntKind.i64.wrap ((a4 : Int) + 7) = (a4 : Int) + 7 := IntWalk.i64_in _ (by omega)
        have ea : ((a4 : Int) + 7) / 8 = ((a4 + 7) / 8 : Nat) := by omega
        obtain ⟨q8, hq8⟩ : ∃ q, (a4 + 7) / 8 = q := ⟨_, rfl⟩
        rw [hq8] at ea HP
        clear hm HM HLB hl1 H4 hL4 hT HT hq8 n3
        go_wp2_with fail
        go_quiet (fail)
        go_wp2
        (try simp only [Exit.inBlock, Exit.then]); refine bodyPost_ret (results_slots [4, 5, 6, 7] (by decide) rfl) rfl ?_
        first
          | exact HP.out _
          | (have hp := HP.out nq
             rw [← ea] at hp
             simpa using hp)
      · have hLb2 : Lb = false := by rw [← HLB.out]; simpa using hl1
        subst hLb2
        have hm := HM.out
        rw [if_neg hl1] at hm
        have HM2 := Lib.hid hm
        clear hm HM HLB hl1
        go_wp2_with fail
        go_roundg f
        case measure => omega
        case rel => exact ⟨a4, A4, _, c4, Ak4, nk + 1, ck4, o4, _, n2, by omega, n3, by omega, H4, HM2⟩
    · have hm2 : R.1 = x := by
        by_cases h3 : 8 * s.size < a + 3
        · rw [if_pos h3] at hq hm
          obtain ⟨rfl, _, _⟩ : 3 = x ∧ a = a4 ∧ out = o4 := by simpa using hq
          rw [← hm]
        · rw [if_neg h3] at hq hm
          rw [hq] at hm
          simp only at hm
          rw [if_pos hx] at hm
          rw [← hm]
      have hx2 : ¬ (x : Int) = 0 := by omega
      have HM := Lib.hid hm2
      clear hm hq hkind hlst HR0 hbo hLb hm2
      go_wp2_with fail
      refine HB.out.mono ?_
      rintro e w4 ⟨ho4, hif⟩
      rw [if_pos hx] at hif
      obtain ⟨v, rfl⟩ := hif
      have HP : Hid (DStrPost w R (.returned (.tuple #[.string ByteArray.empty, .int .i64 0, .slice none 0 0, .int .i64 x])) w4) := Lib.hid (by
        have hx0 : R.1 ≠ 0 := by rw [HM.out]; exact hx
        have e1 : mText R = ByteArray.empty := if_pos hx0
        have e2 : mTaken R = 0 := if_pos hx0
        have e3 : mKinds R = [] := if_pos hx0
        refine ⟨none, 0, by rw [e1, e2, e3, HM.out]; rfl, ?_, ho4⟩
        rw [e3]
        intro i v hv
        simp [ints] at hv)
      clear ho4 HB
      go_wp2
      (try simp only [Exit.inBlock, Exit.then]); refine bodyPost_ret (results_slots [4, 5, 6, 7] (by decide) rfl) rfl ?_
      exact HP.out

end Go.Proofs.YtjlkjebmilfgoaaGreat
