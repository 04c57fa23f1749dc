/- Layer 8, the document: a block whose bytes stand as they are. -/
import Derived.Test.YtackcgiokkbhdaaDoorDCoded
import Derived.Test.YtackcgiokkbhdaaDoorTree
namespace Go.Proofs.YtackcgiokkbhdaaDoor
open Go.RowKit

theorem by8_at (B : List UInt8) (a : Nat) : ∀ (n i : Nat), i < n → (by8 B a n).getD i 0 = UInt8.ofNat (nm B (a + 8 * i) 8)
  | 0, i, h => by omega
  | n + 1, i, h => by
    rw [by8]
    by_cases hi : i < n
    · rw [List.getD_eq_getElem?_getD, List.getElem?_append_left (by rw [by8_length]; exact hi), ← List.getD_eq_getElem?_getD]
      exact by8_at B a n i hi
    · obtain rfl : i = n := by omega
      rw [List.getD_eq_getElem?_getD, List.getElem?_append_right (by rw [by8_length]; exact Nat.le_refl _), by8_length, Nat.sub_self]
      rfl
/-- A text that holds a row's bits is those bytes. -/
theorem text_by8 (B : List UInt8) (hB : Bits B) (a k : Nat) (t : List UInt8) (ha : a ≤ B.length) (hl : t.length = k) (he : le t = le2 ((B.drop a).take (8 * k))) : t = by8 B a k := by
  apply List.ext_getElem
  · rw [by8_length, hl]
  · intro i h1 h2
    have e1 := le_at i t
    rw [he, le2_take _ _ (bits_drop hB a), le2_drop B a hB ha, mod_div_mod _ _ _ _ (by omega), Nat.div_div_eq_div_mul, ← Nat.pow_add] at e1
    have e2 := by8_at B a k i (by omega)
    have e3 : t.getD i 0 = t[i] := by simp [h1]
    have e4 : (by8 B a k).getD i 0 = (by8 B a k)[i] := by simp [h2]
    rw [e3] at e1
    rw [← e4, e2]
    have e5 : nm B (a + 8 * i) 8 = (t[i]).toNat := e1
    rw [e5]
    simp

theorem Sees.mid {w : World} {Bd n g off z k : Nat} {l : List UInt8} (h : See w Bd (some ⟨g, off, none⟩) (bcells l)) (hn : l.length = n) (hz : z + k ≤ n) : Sees w (some ⟨g, off + z, none⟩) k ((l.drop z).take k) := by
  refine ⟨by rw [List.length_take, List.length_drop]; omega, fun i hi => ?_⟩
  obtain ⟨b, o, e, hb, hc⟩ := h (z + i) _ (bcells_at l (z + i) (by omega))
  simp only [Option.some.injEq, Addr.mk.injEq, and_true] at e
  obtain ⟨rfl, rfl⟩ := e
  refine ⟨g, off + z, rfl, cell_lt hc, ?_⟩
  rw [Nat.add_assoc, hc, List.getElem?_take, if_pos hi, List.getElem?_drop]
  simp [List.getD_eq_getElem?_getD]
theorem Sees.none_ {w : World} {A : Option Addr} : Sees w A 0 [] := ⟨rfl, fun i hi => by omega⟩

set_option maxRecDepth 100000 in
set_option maxHeartbeats 8000000 in
theorem dstored (p : RP) (hp : RB p) (hcap : p.nB ≤ p.cB) (h8 : ∃ q, p.nB = 8 * q) (a : Nat) (A : Option Addr) (n c : Nat) (kv : Value) (out : List UInt8) (w : World) (h : Rf p w a A n c kv out) (ha : a ≤ p.nB) (hn : n ≤ 100000) :
    Calls Tryd.prog 31 #[.pointer (some ⟨p.r, 0, none⟩)] w (DoneR p w A kv (mStored p.B p.most a out)) := by
  obtain ⟨R, hR⟩ : ∃ R, mStored p.B p.most a out = R := ⟨_, rfl⟩
  rw [hR]
  unfold mStored at hR
  have hpl := hp.len
  have hle := hp.le
  have hlen := h.len
  rw [hpl, hlen] at hR
  have hu : up8 a ≤ p.nB ∧ up8 a ≤ 1000000 := by
    obtain ⟨q, hq⟩ := h8
    unfold up8
    omega
  have c1 := h.is.cell 1 rfl
  have f1 := h.is.frozen 1
  have eu : (((a : Int) + 7) / 8) * 8 = (up8 a : Nat) := by unfold up8; omega
  obtain ⟨z, hz⟩ : ∃ z, up8 a = z := ⟨_, rfl⟩
  rw [hz] at hR hu eu
  have HG : Hid (∀ v, v = ((z : Nat) : Int) → Rf p (w.setCell ⟨p.r, 1, none⟩ (.int .i64 v)) z A n c kv out ∧ Only (· = p.r) w (w.setCell ⟨p.r, 1, none⟩ (.int .i64 v))) := Lib.hid fun v hv => by
    subst hv
    exact ⟨h.go z, Only.one _ p.r 1 _⟩
  have HN : Hid (∀ w2 a2, Rf p w2 a2 A n c kv out → a2 ≤ p.nB → Calls Tryd.prog 30 #[.pointer (some ⟨p.r, 0, none⟩), .int .i64 16] w2 (DVal p w2 A n c kv out (mNum p.B a2 16))) := Lib.hid fun w2 a2 h2 ha2 => dbits p hp a2 16 A n c kv out w2 h2 ha2 (by decide)
  unfold mNum at HN
  rw [hpl] at HN
  have HR := Lib.hid hR
  have HP := Lib.hid hp
  have HU := Lib.hid eu
  have HL := Lib.hid hlen
  clear h hR hp h8 hz
  go_enter Tryd.func31, Tryd.ntmps31
  go_wp2_with fail
  obtain ⟨g1, g2⟩ := HG.out _ rfl
  obtain ⟨w1, hw1⟩ : ∃ w1, w.setCell ⟨p.r, 1, none⟩ (.int .i64 (z : Nat)) = w1 := ⟨_, rfl⟩
  rw [hw1] at g1 g2
  try rw [hw1]
  have HR1 := Lib.hid g1
  have HO1 := Lib.hid g2
  clear g1 g2 HG hw1 c1 f1 eu
  refine (HN.out w1 z HR1.out hu.1).mono ?_
  rintro e w2 ⟨he2, ho2, hr2⟩
  have HO2 : Hid (Only (· = p.r) w w2) := Lib.hid (HO1.out.trans ho2)
  by_cases h16 : p.nB < z + 16
  · rw [if_pos h16] at he2
    subst he2
    have hR := HR.out
    rw [if_pos (by omega)] at hR
    have HRX := Lib.hid hR
    clear hR hr2 ho2 HR HN
    go_wp2
    go_ret
    rw [← HRX.out]
    exact ⟨rfl, HO2.out.mono fun _ e => .inl e, fun h => by cases h⟩
  · rw [if_neg h16] at he2 hr2
    subst he2
    have HR2 := Lib.hid (hr2 rfl)
    have lt1 := nm_lt p.B z 16
    obtain ⟨k, hk⟩ : ∃ k, nm p.B z 16 = k := ⟨_, rfl⟩
    have HK := Lib.hid hk
    rw [hk] at lt1 ⊢
    have lt1' : k ≤ 65535 := by omega
    clear hr2 ho2 lt1 hk
    go_wp2_with fail
    refine (HN.out w2 (z + 16) HR2.out (by omega)).mono ?_
    rintro e w3 ⟨he3, ho3, hr3⟩
    have HO3 : Hid (Only (· = p.r) w w3) := Lib.hid (HO2.out.trans ho3)
    by_cases h32 : p.nB < z + 32
    · rw [if_pos (by omega)] at he3
      subst he3
      have hR := HR.out
      rw [if_pos h32] at hR
      have HRX := Lib.hid hR
      clear hR hr3 ho3 HR HN
      go_wp2
      go_ret
      rw [← HRX.out]
      exact ⟨rfl, HO3.out.mono fun _ e => .inl e, fun h => by cases h⟩
    · rw [if_neg (by omega)] at he3 hr3
      subst he3
      have HR3 := Lib.hid (hr3 rfl)
      have lt2 := nm_lt p.B (z + 16) 16
      have hR := HR.out
      rw [if_neg h32, HK.out] at hR
      obtain ⟨m, hm⟩ : ∃ k, nm p.B (z + 16) 16 = k := ⟨_, rfl⟩
      rw [hm] at lt2 hR ⊢
      have lt2' : m ≤ 65535 := by omega
      clear hr3 ho3 lt2 hm HR HN HR2 HO2 HR1 HO1
      by_cases hfit : k + m ≠ 65535
      · rw [if_pos hfit] at hR
        have hne : ¬ (m : Int) = 65535 - (k : Int) := by omega
        have HRX := Lib.hid hR
        clear hR
        go_wp2
        go_ret
        rw [← HRX.out]
        exact ⟨rfl, HO3.out.mono fun _ e => .inl e, fun h => by cases h⟩
      · rw [if_neg hfit] at hR
        have hne : (m : Int) = 65535 - (k : Int) := by omega
        have hne2 : (65535 : Int) - (k : Int) = (m : Int) := by omega
        have d2 := HR3.out.is.cell 2 rfl
        have d3 := HR3.out.is.cell 3 rfl
        have ew : IntKind.i64.wrap ((n : Int) + (k : Int)) = (n : Int) + (k : Int) := IntWalk.i64_in _ (by omega)
        clear hne
        by_cases hroom : p.most < (n : Int) + k
        · rw [if_pos hroom] at hR
          have HRX := Lib.hid hR
          clear hR
          go_wp2_with fail
          go_quiet (fail)
          go_wp2
          go_ret
          rw [← HRX.out]
          exact ⟨rfl, (HO3.out.mono fun _ e => .inl e).drewN _, fun h => by cases h⟩
        · rw [if_neg hroom] at hR
          have HRX0 := Lib.hid hR
          clear hR
          go_wp2_with fail
          go_quiet (fail)
          go_wp2_with fail
          have HR4 : Hid (Rf p (w3.drewN nq) (z + 32) A n c kv out) := Lib.hid (by
            have := HR3.out.new ((Only.refl _ w3).drewN nq)
            rw [show z + 16 + 16 = z + 32 from by omega] at this
            exact this)
          have HO4 : Hid (Only (· = p.r) w (w3.drewN nq)) := Lib.hid (HO3.out.drewN nq)
          obtain ⟨w4, hw4⟩ : ∃ w4, w3.drewN nq = w4 := ⟨_, rfl⟩
          rw [hw4] at HR4 HO4 ⊢
          clear hw4 HR3 HO3 d2 d3
          have b0 := HR4.out.is.cell 0 rfl
          have b1 := HR4.out.is.cell 1 rfl
          obtain ⟨z2, hz2⟩ : ∃ z2, z + 32 = z2 := ⟨_, rfl⟩
          rw [hz2] at HR4 b1 HRX0
          have hz2n : z2 ≤ p.nB := by omega
          have e8k' : IntKind.i64.wrap (8 * (k : Int)) = ((8 * k : Nat) : Int) := by rw [IntWalk.i64_in _ (by omega)]; omega
          have esub : IntKind.i64.wrap ((p.nB : Int) - (z2 : Int)) = (p.nB : Int) - (z2 : Int) := IntWalk.i64_in _ (by omega)
          obtain ⟨k8, hk8⟩ : ∃ k8, 8 * k = k8 := ⟨_, rfl⟩
          rw [hk8] at e8k' HRX0
          have hk82 : k8 ≤ 524280 := by omega
          have hR := HRX0.out
          by_cases hend : p.nB < z2 + k8
          · rw [if_pos hend] at hR
            have HRX := Lib.hid hR
            have hgt : (p.nB : Int) - (z2 : Int) < (k8 : Int) := by omega
            clear hR HRX0
            go_quiet (fail)
            go_wp2
            go_ret
            rw [← HRX.out]
            exact ⟨rfl, (HO4.out.mono fun _ e => .inl e).drewN _, fun h => by cases h⟩
          · rw [if_neg hend] at hR
            have HRX1 := Lib.hid hR
            have hgt : ¬ (p.nB : Int) - (z2 : Int) < (k8 : Int) := by omega
            clear hR HRX0
            go_quiet (fail)
            have HR5 := Lib.hid (HR4.out.new ((Only.refl _ w4).drewN nq))
            have HO5 := Lib.hid (HO4.out.drewN nq)
            obtain ⟨w5, hw5⟩ : ∃ w5, w4.drewN nq = w5 := ⟨_, rfl⟩
            rw [hw5] at HR5 HO5 ⊢
            clear hw5 HR4 HO4 b0 b1
            go_wp2_with fail
            obtain ⟨g, off, eAB, _, _⟩ := HR5.out.bits 0 _ (bcells_at p.B 0 (by omega))
            have b0 := HR5.out.is.cell 0 rfl
            have b1 := HR5.out.is.cell 1 rfl
            have b2 := HR5.out.is.cell 2 rfl
            rw [eAB] at b0
            have hbits := HR5.out.bits
            rw [eAB] at hbits
            obtain ⟨AZ, hAZ⟩ : ∃ AZ, (if p.cB = z2 then some (⟨g, off, none⟩ : Addr) else some ⟨g, off + z2, none⟩) = AZ := ⟨_, rfl⟩
            obtain ⟨CZ, hCZ⟩ : ∃ CZ, p.cB - z2 = CZ := ⟨_, rfl⟩
            have hsees : Sees w5.drew AZ k8 ((p.B.drop z2).take k8) := by
              rw [← hAZ]
              by_cases hc : p.cB = z2
              · obtain rfl : k8 = 0 := by omega
                rw [List.take_zero]
                exact Sees.none_
              · rw [if_neg hc]
                exact Sees.mid (w := w5.drew) hbits hpl (by omega)
            have HTX := Lib.hid (rtext AZ k8 CZ _ w5.drew hsees (bits_take (bits_drop HP.out.bits z2) k8) (by omega))
            have HTT : Hid (∀ t : List UInt8, t.length = (k8 + 7) / 8 → le t = le2 ((p.B.drop z2).take k8) → t = by8 p.B z2 k ∧ t.length = k) := Lib.hid fun t h1 h2 => by
              have h3 : t.length = k := by omega
              refine ⟨text_by8 p.B HP.out.bits z2 k t (by omega) h3 ?_, h3⟩
              rw [hk8]
              exact h2
            have HFN : Hid (∀ (t : List UInt8) w6, t = by8 p.B z2 k → t.length = k → Only (fun _ => False) w5.drew w6 → (w6.cell? ⟨p.r, 0, none⟩ = some (.slice (some ⟨g, off, none⟩) p.nB p.cB) ∧ w6.cell? ⟨p.r, 1, none⟩ = some (.int .i64 (z2 : Nat))) ∧ w6.cell? ⟨p.r, 2, none⟩ = some (.slice A n c) ∧
                ∃ A9 c9 w9, (Builtin.append_ #[40, 9] 40 #[.slice A n c, .string ⟨t.toArray⟩]).run Tryd.prog w6 = .ok (.slice A9 (n + k) c9) w9 ∧ (w9.cell? ⟨p.r, 0, none⟩ = some (.slice (some ⟨g, off, none⟩) p.nB p.cB) ∧ w9.cell? ⟨p.r, 1, none⟩ = some (.int .i64 (z2 : Nat))) ∧ w9.cell? ⟨p.r, 2, none⟩ = some (.slice A n c) ∧ w9.frozen? ⟨p.r, 2, none⟩ = false ∧
                ∀ wS, wS = w9.setCell ⟨p.r, 2, none⟩ (.slice A9 (n + k) c9) → (wS.cell? ⟨p.r, 0, none⟩ = some (.slice (some ⟨g, off, none⟩) p.nB p.cB) ∧ wS.cell? ⟨p.r, 1, none⟩ = some (.int .i64 (z2 : Nat))) ∧ wS.frozen? ⟨p.r, 1, none⟩ = false ∧ DoneR p w A kv R (.returned (.int .i64 0)) (wS.setCell ⟨p.r, 1, none⟩ (.int .i64 (z2 + k8 : Nat)))) := Lib.hid fun t w6 ht htl o6 => by
              have h6 := (HR5.out.new ((Only.refl _ w5).drew)).new o6
              have c60 := h6.is.cell 0 rfl
              rw [eAB] at c60
              obtain ⟨A9, c9, w9, hrun, r1, r2, r3⟩ := run_append_row (P := Tryd.prog) (ty := 40) Tryd.underlying40 info5 h6.row (r := bcells t) (m := k) (by rw [bcells_length, htl]) (by
                have hsz : (⟨t.toArray⟩ : ByteArray).size = k := htl
                have := Src.text (P := Tryd.prog) Tryd.underlying9 w6 ⟨t.toArray⟩
                rw [hsz] at this
                simpa using this) (by decide) (by omega)
              have hap : bcells out ++ bcells t = bcells (out ++ t) := by simp [bcells]
              rw [hap] at r1
              have i9 := h6.is.only r2 (fun e => Nat.lt_irrefl _ (h6.an _ e))
              have c90 := i9.cell 0 rfl
              rw [eAB] at c90
              refine ⟨⟨c60, h6.is.cell 1 rfl⟩, h6.is.cell 2 rfl, A9, c9, w9, hrun, ⟨c90, i9.cell 1 rfl⟩, i9.cell 2 rfl, i9.frozen 2, ?_⟩
              rintro wS rfl
              obtain ⟨f1, f2, f3⟩ := h6.append r1 htl r2 r3
              have cS := f1.is.cell 0 rfl
              rw [eAB] at cS
              refine ⟨⟨cS, f1.is.cell 1 rfl⟩, f1.is.frozen 1, ?_⟩
              rw [← HRX1.out]
              have o6' : Only (· = p.r) w w6 := (HO5.out.drew).trans (o6.mono fun _ f => f.elim)
              refine ⟨rfl, ((o6'.mono fun _ e => .inl e).trans f2).trans ((Only.one _ p.r 1 _).mono fun _ e => .inl e), fun _ => ⟨A9, c9, ?_, fun j hj => (f3 j hj).imp id fun x => Nat.le_trans o6'.size x⟩⟩
              have hg := f1.go (z2 + k8)
              have el : (out ++ by8 p.B z2 k).length = n + k := by rw [List.length_append, HL.out, by8_length]
              simp only [el]
              rw [← ht]
              exact hg
            have e8k : IntKind.i64.wrap (8 * (k : Int)) = ((k8 : Nat) : Int) := e8k'
            have ezk : IntKind.i64.wrap ((z2 : Int) + (k8 : Int)) = ((z2 + k8 : Nat) : Int) := by rw [IntWalk.i64_in _ (by omega)]; omega
            have hz3 : z2 + k8 ≤ p.cB := by omega
            have s0 : w5.drew.cell? ⟨p.r, 0, none⟩ = some (.slice (some ⟨g, off, none⟩) p.nB p.cB) ∧ w5.drew.cell? ⟨p.r, 1, none⟩ = some (.int .i64 (z2 : Nat)) := ⟨b0, b1⟩
            obtain ⟨zk, hzk⟩ : ∃ zk, z2 + k8 = zk := ⟨_, rfl⟩
            rw [hzk] at ezk hz3 HFN
            have hzk2 : z2 ≤ zk := by omega
            have hzk3 : zk - z2 = k8 := by omega
            clear hbits hsees eAB HR5 HO5 HRX1
            refine Walk.region (fun W => W.cell? ⟨p.r, 0, none⟩ = some (.slice (some ⟨g, off, none⟩) p.nB p.cB) ∧ W.cell? ⟨p.r, 1, none⟩ = some (.int .i64 (z2 : Nat)))
              (.t 0 (.t 1 (.t 2 (.t 3 (.t 5 (.t 6 (.t 7 (.t 8 (.t 9 (.t 10 (.t 11 (.t 12 (.t 13 (.t 14 (.t 15 (.t 16 (.t 17 (.t 18 (.t 19 (.t 20 (.two 4 21 (.f 21 (.f 22 (.t 23 (.t 24 (.f 25 .nil))))) (.f 4 (.f 22 (.t 23 (.t 24 (.f 25 .nil)))))))))))))))))))))))))) (by kernel_rfl) (by kernel_rfl) (by kernel_rfl) (fun _ _ d _ _ h => by cases d <;> exact h) ?_
            refine Walk.take (.pointer (some ⟨p.r, 0, none⟩)) rfl s0 (fun _ hW => by kernel_rfl) ?_
            simp only [Act.put, List.setIfInBounds_toArray, List.set_cons_succ, List.set_cons_zero]
            refine Walk.take (.pointer (some ⟨p.r, 0, none⟩)) rfl s0 (fun _ hW => by kernel_rfl) ?_
            simp only [Act.put, List.setIfInBounds_toArray, List.set_cons_succ, List.set_cons_zero]
            refine Walk.take (.pointer (some ⟨p.r, 0, none⟩)) rfl s0 (fun _ hW => by kernel_rfl) ?_
            simp only [Act.put, List.setIfInBounds_toArray, List.set_cons_succ, List.set_cons_zero]
            refine Walk.take (.pointer (some ⟨p.r, 2, none⟩)) rfl s0 (fun _ hW => by kernel_rfl) ?_
            simp only [Act.put, List.setIfInBounds_toArray, List.set_cons_succ, List.set_cons_zero]
            refine Walk.take (.pointer (some ⟨p.r, 0, none⟩)) rfl s0 (fun _ hW => by kernel_rfl) ?_
            simp only [Act.put, List.setIfInBounds_toArray, List.set_cons_succ, List.set_cons_zero]
            refine Walk.take (.pointer (some ⟨p.r, 0, none⟩)) rfl s0 (fun _ hW => by kernel_rfl) ?_
            simp only [Act.put, List.setIfInBounds_toArray, List.set_cons_succ, List.set_cons_zero]
            refine Walk.take (.pointer (some ⟨p.r, 0, none⟩)) rfl s0 (fun _ hW => by kernel_rfl) ?_
            simp only [Act.put, List.setIfInBounds_toArray, List.set_cons_succ, List.set_cons_zero]
            refine Walk.take (.slice (some ⟨g, off, none⟩) p.nB p.cB) rfl s0 (fun _ hW => by obtain ⟨hw1, hw2⟩ := hW; go_simp) ?_
            simp only [Act.put, List.setIfInBounds_toArray, List.set_cons_succ, List.set_cons_zero]
            refine Walk.take (.pointer (some ⟨p.r, 0, none⟩)) rfl s0 (fun _ hW => by kernel_rfl) ?_
            simp only [Act.put, List.setIfInBounds_toArray, List.set_cons_succ, List.set_cons_zero]
            refine Walk.take (.pointer (some ⟨p.r, 0, none⟩)) rfl s0 (fun _ hW => by kernel_rfl) ?_
            simp only [Act.put, List.setIfInBounds_toArray, List.set_cons_succ, List.set_cons_zero]
            refine Walk.take (.pointer (some ⟨p.r, 1, none⟩)) rfl s0 (fun _ hW => by kernel_rfl) ?_
            simp only [Act.put, List.setIfInBounds_toArray, List.set_cons_succ, List.set_cons_zero]
            refine Walk.take (.int .i64 z2) rfl s0 (fun _ hW => by obtain ⟨hw1, hw2⟩ := hW; go_simp) ?_
            simp only [Act.put, List.setIfInBounds_toArray, List.set_cons_succ, List.set_cons_zero]
            refine Walk.take (.pointer (some ⟨p.r, 0, none⟩)) rfl s0 (fun _ hW => by kernel_rfl) ?_
            simp only [Act.put, List.setIfInBounds_toArray, List.set_cons_succ, List.set_cons_zero]
            refine Walk.take (.pointer (some ⟨p.r, 0, none⟩)) rfl s0 (fun _ hW => by kernel_rfl) ?_
            simp only [Act.put, List.setIfInBounds_toArray, List.set_cons_succ, List.set_cons_zero]
            refine Walk.take (.pointer (some ⟨p.r, 1, none⟩)) rfl s0 (fun _ hW => by kernel_rfl) ?_
            simp only [Act.put, List.setIfInBounds_toArray, List.set_cons_succ, List.set_cons_zero]
            refine Walk.take (.int .i64 z2) rfl s0 (fun _ hW => by obtain ⟨hw1, hw2⟩ := hW; go_simp) ?_
            simp only [Act.put, List.setIfInBounds_toArray, List.set_cons_succ, List.set_cons_zero]
            refine Walk.take (.int .i64 k) rfl s0 (fun _ hW => by kernel_rfl) ?_
            simp only [Act.put, List.setIfInBounds_toArray, List.set_cons_succ, List.set_cons_zero]
            refine Walk.take (.int .i64 k8) rfl s0 (fun _ hW => by go_simp; try exact e8k) ?_
            simp only [Act.put, List.setIfInBounds_toArray, List.set_cons_succ, List.set_cons_zero]
            refine Walk.take (.int .i64 zk) rfl s0 (fun _ hW => by go_simp; try exact ezk) ?_
            simp only [Act.put, List.setIfInBounds_toArray, List.set_cons_succ, List.set_cons_zero]
            refine Walk.take (.slice AZ k8 CZ) rfl s0 (fun _ hW => by go_simp; try (rw [← hAZ, ← hCZ]; simp [hzk3])) ?_
            simp only [Act.put, List.setIfInBounds_toArray, List.set_cons_succ, List.set_cons_zero]
            constructor
            · refine op_value (w' := w5.drew) (.slice A n c) rfl (by go_simp) ⟨s0, ?_⟩
              simp only [Act.put, List.setIfInBounds_toArray, List.set_cons_succ, List.set_cons_zero]
              refine op_call 14 #[.slice AZ k8 CZ] rfl (by kernel_rfl) (HTX.out.mono ?_)
              rintro e w6 ⟨t, rfl, t1, t2, o6⟩
              obtain ⟨t3, t4⟩ := HTT.out t t1 t2
              obtain ⟨s3, q2, A9, c9, w9, hrun, s4, q4, q5, hS⟩ := HFN.out t w6 t3 t4 o6
              refine ⟨_, rfl, s3, ?_⟩
              simp only [Act.put, List.setIfInBounds_toArray, List.set_cons_succ, List.set_cons_zero]
              refine op_value (w' := w9) (.slice A9 (n + k) c9) rfl (exec_append (.tmp 66) (.tmp 83) rfl rfl rfl hrun) ⟨s4, ?_⟩
              simp only [Act.put, List.setIfInBounds_toArray, List.set_cons_succ, List.set_cons_zero]
              refine Walk.take (.pointer (some ⟨p.r, 0, none⟩)) rfl s4 (fun _ hW => by kernel_rfl) ?_
              simp only [Act.put, List.setIfInBounds_toArray, List.set_cons_succ, List.set_cons_zero]
              refine Walk.take (.pointer (some ⟨p.r, 2, none⟩)) rfl s4 (fun _ hW => by kernel_rfl) ?_
              simp only [Act.put, List.setIfInBounds_toArray, List.set_cons_succ, List.set_cons_zero]
              obtain ⟨s5, z5, hfin⟩ := hS _ rfl
              refine op_skip (w' := w9.setCell ⟨p.r, 2, none⟩ (.slice A9 (n + k) c9)) rfl (by go_simp) ⟨s5, ?_⟩
              simp only [Act.put]
              show wpList _ _ _ _ _ _
              have HFI := Lib.hid hfin
              obtain ⟨y1, y2⟩ := s5
              obtain ⟨wS, hwS⟩ : ∃ wS, w9.setCell ⟨p.r, 2, none⟩ (.slice A9 (n + k) c9) = wS := ⟨_, rfl⟩
              rw [hwS] at y1 y2 z5 HFI
              try rw [hwS]
              clear hfin hS s3 s4 q2 q4 q5 hrun HTX HTT HFN o6 t1 t2 t3
              go_wp2
              go_ret
              exact HFI.out
            · refine op_call 14 #[.slice AZ k8 CZ] rfl (by kernel_rfl) (HTX.out.mono ?_)
              rintro e w6 ⟨t, rfl, t1, t2, o6⟩
              obtain ⟨t3, t4⟩ := HTT.out t t1 t2
              obtain ⟨s3, q2, A9, c9, w9, hrun, s4, q4, q5, hS⟩ := HFN.out t w6 t3 t4 o6
              refine ⟨_, rfl, s3, ?_⟩
              simp only [Act.put, List.setIfInBounds_toArray, List.set_cons_succ, List.set_cons_zero]
              refine op_value (w' := w6) (.slice A n c) rfl (by go_simp) ⟨s3, ?_⟩
              simp only [Act.put, List.setIfInBounds_toArray, List.set_cons_succ, List.set_cons_zero]
              refine op_value (w' := w9) (.slice A9 (n + k) c9) rfl (exec_append (.tmp 66) (.tmp 83) rfl rfl rfl hrun) ⟨s4, ?_⟩
              simp only [Act.put, List.setIfInBounds_toArray, List.set_cons_succ, List.set_cons_zero]
              refine Walk.take (.pointer (some ⟨p.r, 0, none⟩)) rfl s4 (fun _ hW => by kernel_rfl) ?_
              simp only [Act.put, List.setIfInBounds_toArray, List.set_cons_succ, List.set_cons_zero]
              refine Walk.take (.pointer (some ⟨p.r, 2, none⟩)) rfl s4 (fun _ hW => by kernel_rfl) ?_
              simp only [Act.put, List.setIfInBounds_toArray, List.set_cons_succ, List.set_cons_zero]
              obtain ⟨s5, z5, hfin⟩ := hS _ rfl
              refine op_skip (w' := w9.setCell ⟨p.r, 2, none⟩ (.slice A9 (n + k) c9)) rfl (by go_simp) ⟨s5, ?_⟩
              simp only [Act.put]
              show wpList _ _ _ _ _ _
              have HFI := Lib.hid hfin
              obtain ⟨y1, y2⟩ := s5
              obtain ⟨wS, hwS⟩ : ∃ wS, w9.setCell ⟨p.r, 2, none⟩ (.slice A9 (n + k) c9) = wS := ⟨_, rfl⟩
              rw [hwS] at y1 y2 z5 HFI
              try rw [hwS]
              clear hfin hS s3 s4 q2 q4 q5 hrun HTX HTT HFN o6 t1 t2 t3
              go_wp2
              go_ret
              exact HFI.out
end Go.Proofs.YtackcgiokkbhdaaDoor
