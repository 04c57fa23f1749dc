/- Layer 8, the document: its reader in memory; numbers and symbols of it. -/
import Derived.Test.YtjlkjebmilfgoaaGreatM7
import Derived.Test.YtjlkjebmilfgoaaGreatBound
namespace Go.Proofs.YtjlkjebmilfgoaaGreat
open Go.RowKit

/-- What of the document's reader stays: its block, its bits, how much may be said, its kinds. -/
structure RP where
  r : Nat
  AB : Option Addr
  nB : Nat
  cB : Nat
  B : List UInt8
  most : Int
structure Rf (p : RP) (w : World) (a : Nat) (A : Option Addr) (n c : Nat) (kv : Value) (out : List UInt8) : Prop where
  is : Is w p.r 86 [.slice p.AB p.nB p.cB, .int .i64 a, .slice A n c, .int .i64 p.most, kv]
  bits : See w p.r p.AB (bcells p.B)
  row : Row 5 w A n c (bcells out)
  len : out.length = n
  an : ∀ j, Lies A j → p.r < j
/-- The bits are bits, and not too many. -/
structure RB (p : RP) : Prop where
  bits : Bits p.B
  len : p.B.length = p.nB
  le : p.nB ≤ 1000000
def MineR (r : Nat) (A : Option Addr) (j : Nat) : Prop := j = r ∨ Lies A j

theorem See.off {w w' : World} {B : Nat} {A : Option Addr} {vs : List Value} {X : Nat → Prop} (h : See w B A vs) (k : Only X w w') (hd : ∀ j, Lies A j → ¬ X j) : See w' B A vs := by
  intro i v hv
  obtain ⟨b, off, hA, hb, hc⟩ := h i v hv
  exact ⟨b, off, hA, hb, k.cell hc (hd b ⟨_, hA, rfl⟩)⟩
theorem See.sees {w : World} {B n : Nat} {A : Option Addr} {l : List UInt8} (h : See w B A (bcells l)) (hn : l.length = n) : Sees w A n l := by
  refine ⟨hn, fun i hi => ?_⟩
  obtain ⟨b, off, hA, hb, hc⟩ := h i _ (bcells_at l i (by omega))
  refine ⟨b, off, hA, cell_lt hc, ?_⟩
  rw [hc]
  simp [List.getD_eq_getElem?_getD]

section
variable {p : RP} {w w' : World} {a n c : Nat} {A : Option Addr} {kv : Value} {out : List UInt8} {S : Nat → Prop}
theorem Rf.keep (h : Rf p w a A n c kv out) (k : Only S w w') (hS : ∀ j, j ≤ p.r → ¬ S j) (hA : ∀ j, Lies A j → ¬ S j) : Rf p w' a A n c kv out :=
  ⟨h.is.only k (hS _ (Nat.le_refl _)), h.bits.keep (k.mono fun j hj => Nat.le_of_lt (Nat.lt_of_not_le fun hle => hS j hle hj)), h.row.only k hA, h.len, h.an⟩
theorem Rf.new (h : Rf p w a A n c kv out) (k : Only (fun _ => False) w w') : Rf p w' a A n c kv out := h.keep k (fun _ _ f => f) fun _ _ f => f
/-- The reader's place is set. -/
theorem Rf.go (h : Rf p w a A n c kv out) (b : Nat) : Rf p (w.setCell ⟨p.r, 1, none⟩ (.int .i64 (b : Nat))) b A n c kv out := by
  have k := Only.one w p.r 1 (.int .i64 (b : Nat))
  refine ⟨h.is.set 1 _, h.bits.keep (k.mono fun j hj => Nat.le_of_eq hj.symm), h.row.only k (fun j hj e => ?_), h.len, h.an⟩
  have := h.an j hj
  omega
end

theorem nm_step (B : List UInt8) (hB : Bits B) (a m : Nat) : nm B a (m + 1) = 2 * nm B (a + 1) m + bt B a := by
  have e : le2 B / 2 ^ a / 2 = le2 B / 2 ^ (a + 1) := by rw [Nat.div_div_eq_div_mul, ← Nat.pow_succ]
  unfold nm
  rw [bt_le2 B hB, Nat.pow_succ, Nat.mul_comm (2 ^ m) 2, Nat.mod_mul, e]
  exact Nat.add_comm _ _
theorem nm_zero (B : List UInt8) (a : Nat) : nm B a 0 = 0 := by unfold nm; rw [Nat.pow_zero, Nat.mod_one]

def mNum (B : List UInt8) (a v : Nat) : Nat × Nat × Nat := if B.length < a + v then (3, a, 0) else (0, a + v, nm B a v)
def DVal (p : RP) (w : World) (A : Option Addr) (n c : Nat) (kv : Value) (out : List UInt8) (q : Nat × Nat × Nat) (e : Ending) (w' : World) : Prop :=
  e = .returned (.tuple #[.int .i64 q.2.2, .int .i64 q.1]) ∧ Only (· = p.r) w w' ∧ (q.1 = 0 → Rf p w' q.2.1 A n c kv out)

set_option maxRecDepth 20000 in
set_option maxHeartbeats 2000000 in
theorem dbits (p : RP) (hp : RB p) (a v : Nat) (A : Option Addr) (n c : Nat) (kv : Value) (out : List UInt8) (w : World) (h : Rf p w a A n c kv out) (ha : a ≤ p.nB) (hv : v ≤ 16) :
    Calls Tryz.prog 65 #[.pointer (some ⟨p.r, 0, none⟩), .int .i64 v] w (DVal p w A n c kv out (mNum p.B a v)) := by
  have hle := hp.le
  have hlen := hp.len
  have c0 := h.is.cell 0 rfl
  have c1 := h.is.cell 1 rfl
  have e1 : IntKind.i64.wrap ((p.nB : Int) - (a : Int)) = (p.nB : Int) - (a : Int) := IntWalk.i64_in _ (by omega)
  unfold mNum
  rw [hlen]
  by_cases hlt : p.nB < a + v
  · rw [if_pos hlt]
    have h1 : (p.nB : Int) - (a : Int) < (v : Int) := by omega
    clear h hlt hp
    go_enter Tryz.func65, Tryz.ntmps65
    go_wp2
    go_quiet (fail)
    go_wp2
    go_ret2
    exact ⟨rfl, (Only.refl _ w).drewN _, fun h => by cases h⟩
  · rw [if_neg hlt]
    have h1 : ¬ (p.nB : Int) - (a : Int) < (v : Int) := by omega
    have H := Lib.hid h
    have HB := Lib.hid hp.bits
    have HL := Lib.hid hlen
    have eN : IntKind.i64.wrap ((v : Int) - 1) = (v : Int) - 1 := IntWalk.i64_in _ (by omega)
    clear h hp hlen
    go_enter Tryz.func65, Tryz.ntmps65
    go_wp2
    go_quiet (fail)
    go_wp2_with fail
    go_loopg [6, 7] v (fun gk x k wx => ∃ (j : Nat), k = .int .i64 ((j : Int) - 1) ∧ x = .int .i64 (nm p.B (a + j) (v - j) : Nat) ∧ j ≤ gk ∧ gk ≤ j ∧ j ≤ v ∧ ∃ m, wx = w.drewN m)
    case atStart => exact ⟨v, rfl, by rw [Nat.sub_self, nm_zero]; rfl, by omega, by omega, by omega, _, rfl⟩
    case round =>
      obtain ⟨j, rfl, rfl, hj, hj2, hjv, m, rfl⟩ := hrel
      by_cases hj0 : 1 ≤ j
      · obtain ⟨i, rfl⟩ : ∃ i, j = i + 1 := ⟨j - 1, by omega⟩
        have hst := nm_step p.B HB.out (a + i) (v - (i + 1))
        rw [show v - (i + 1) + 1 = v - i from by omega, show a + i + 1 = a + (i + 1) from by omega] at hst
        have hnm := nm_lt p.B (a + (i + 1)) (v - (i + 1))
        have hpw : 2 ^ (v - (i + 1)) ≤ 2 ^ 16 := Nat.pow_le_pow_right (by decide) (by omega)
        have hbt := bt_lt p.B HB.out (a + i)
        obtain ⟨g, off, eA, hg, cb⟩ := H.out.bits (a + i) _ (bcells_at p.B (a + i) (by rw [HL.out]; omega))
        have hcb : (p.B.getD (a + i) 0).toNat = bt p.B (a + i) := rfl
        rw [hcb] at cb
        obtain ⟨x, hx⟩ : ∃ x, nm p.B (a + (i + 1)) (v - (i + 1)) = x := ⟨_, rfl⟩
        obtain ⟨t, ht⟩ : ∃ t, bt p.B (a + i) = t := ⟨_, rfl⟩
        rw [hx] at hst hnm ⊢
        rw [ht] at hst hbt cb
        have HST := Lib.hid hst
        rw [eA] at c0
        have hx2 : x ≤ 65536 := by omega
        have e2 : ((i + 1 : Nat) : Int) - 1 = (i : Int) := by omega
        rw [e2]
        have e3 : IntKind.i64.wrap (2 * (x : Int)) = 2 * (x : Int) := IntWalk.i64_in _ (by omega)
        have e4 : IntKind.i64.wrap ((a : Int) + (i : Int)) = ((a + i : Nat) : Int) := by rw [IntWalk.i64_in _ (by omega)]; omega
        have e5 : IntKind.i64.wrap (t : Int) = (t : Int) := IntWalk.i64_in _ (by omega)
        have e6 : IntKind.i64.wrap (2 * (x : Int) + (t : Int)) = ((2 * x + t : Nat) : Int) := by rw [IntWalk.i64_in _ (by omega)]; omega
        have hix : ((a + i : Nat) : Int) < (p.nB : Int) := by omega
        have hix0 : 0 ≤ ((a + i : Nat) : Int) := by omega
        obtain ⟨ai, hai⟩ : ∃ ai, a + i = ai := ⟨_, rfl⟩
        rw [hai] at cb e4 hix hix0
        obtain ⟨z, hz⟩ : ∃ z, 2 * x + t = z := ⟨_, rfl⟩
        rw [hz] at e6
        have HZ := Lib.hid hz
        clear hst hnm hpw hcb hx ht eA hai hz
        go_wp2
        go_quiet (fail)
        go_wp2_with fail
        go_roundg i
        case measure => omega
        case rel => exact ⟨i, by first | rfl | go_num, by rw [HST.out, HZ.out], by omega, by omega, by omega, m + nq, by simp⟩
      · obtain rfl : j = 0 := by omega
        rw [Nat.add_zero, Nat.sub_zero]
        have hf := h1
        have hM := H.out.is.drewN m
        have d1 := hM.cell 1 rfl
        have f1 := hM.frozen 1
        obtain ⟨x, hx⟩ : ∃ x, nm p.B a v = x := ⟨_, rfl⟩
        rw [hx]
        have HD : Hid (∀ z, z = ((a + v : Nat) : Int) → DVal p w A n c kv out (0, a + v, nm p.B a v) (.returned (.tuple #[.int .i64 x, .int .i64 0])) ((w.drewN m).setCell ⟨p.r, 1, none⟩ (.int .i64 z))) := Lib.hid fun z hz => by
          subst hz
          exact ⟨by rw [hx]; rfl, ((Only.refl _ w).drewN m).trans (Only.one _ p.r 1 _), fun _ => (H.out.new ((Only.refl _ w).drewN m)).go (a + v)⟩
        clear hM hx H hf
        go_wp2
        go_ret2
        refine HD.out _ ?_
        first | done | rfl | omega | (push_cast; omega) | (rw [IntWalk.wrap64_in _ (by omega)]; omega)

theorem rread (A A2 : Option Addr) (n c m c2 B a : Nat) (l : List Nat) (bl : List UInt8) (w : World) (h : See w B A (ints l)) (hb : Sees w A2 m bl) (hbits : Bits bl) (hn : l.length = n) (h288 : n ≤ 288) (hl : Low l) (hk : (kd l).2 = 0) (hm : m ≤ 1073741824) (ha : a ≤ m) :
    Calls Tryz.prog 115 #[.slice A n c, .slice A2 m c2, .int .i64 a] w (RdPost w (rdp l bl a)) := by
  rcases kd_cases l hl with ⟨h1, h2, h3⟩ | ⟨h1, h2, h3⟩ | ⟨h1, h2, h3⟩ | ⟨h1, h2, h4, h3⟩
  · exact rread_some A A2 n c m c2 B a 0 15 l bl w h hb hbits hn h288 hl h3 (.inl ⟨rfl, rfl⟩) (rdp_full l bl hbits a h1 h2).symm hm ha
  · refine rread_some A A2 n c m c2 B a 1 1 l bl w h hb hbits hn h288 hl h3 (.inr ⟨rfl, rfl⟩) ?_ hm ha
    unfold rdp
    rw [(lone_lg l h2 h1).1]
  · exact rread_empty A A2 n c m c2 B a l bl w h hn h288 hl h3 h2
  · rw [h3] at hk
    cases hk

def DSym (p : RP) (w : World) (A : Option Addr) (n c : Nat) (kv : Value) (out : List UInt8) (q : Nat × Nat × Nat) (e : Ending) (w' : World) : Prop :=
  e = .returned (.tuple #[.int .i64 q.1, .int .i64 q.2.2]) ∧ Only (· = p.r) w w' ∧ Rf p w' q.2.1 A n c kv out
set_option maxRecDepth 20000 in
set_option maxHeartbeats 2000000 in
theorem dsymbol (p : RP) (hp : RB p) (a : Nat) (A : Option Addr) (n c : Nat) (kv : Value) (out : List UInt8) (Al : Option Addr) (nl cl Bd : Nat) (l : List Nat) (w : World) (h : Rf p w a A n c kv out) (ha : a ≤ p.nB) (hl : See w Bd Al (ints l)) (hn : l.length = nl) (hL : Lens l) (hk : (kd l).2 = 0) :
    Calls Tryz.prog 97 #[.pointer (some ⟨p.r, 0, none⟩), .slice Al nl cl] w (DSym p w A n c kv out (rdp l p.B a)) := by
  have hle := hp.le
  have hlen := hL.len
  rw [hn] at hlen
  have HR : Hid (∀ k, Calls Tryz.prog 115 #[.slice Al nl cl, .slice p.AB p.nB p.cB, .int .i64 a] (w.drewN k) (RdPost (w.drewN k) (rdp l p.B a))) := Lib.hid fun k => rread Al p.AB nl cl p.nB p.cB Bd a l p.B (w.drewN k) hl (h.bits.sees hp.len) hp.bits hn hlen hL.low hk (by omega) ha
  have c0 := h.is.cell 0 rfl
  have c1 := h.is.cell 1 rfl
  obtain ⟨⟨y, a2, x⟩, hq⟩ : ∃ q, rdp l p.B a = q := ⟨_, rfl⟩
  rw [hq] at HR ⊢
  have H := Lib.hid h
  have HS : Hid (w.drew.cell? ⟨p.r, 0, none⟩ = some (.slice p.AB p.nB p.cB) ∧ w.drew.cell? ⟨p.r, 1, none⟩ = some (.int .i64 (a : Nat))) := Lib.hid ⟨c0, c1⟩
  have HK : Hid (∀ w2, Only (fun _ => False) w.drew w2 → w2.cell? ⟨p.r, 0, none⟩ = some (.slice p.AB p.nB p.cB) ∧ w2.cell? ⟨p.r, 1, none⟩ = some (.int .i64 (a : Nat))) := Lib.hid fun w2 ho => ⟨ho.cell c0 fun f => f, ho.cell c1 fun f => f⟩
  have HF : Hid (∀ w2, Only (fun _ => False) w.drew w2 → w2.frozen? ⟨p.r, 1, none⟩ = false ∧ DSym p w A n c kv out (y, a2, x) (.returned (.tuple #[.int .i64 y, .int .i64 x])) (w2.setCell ⟨p.r, 1, none⟩ (.int .i64 (a2 : Nat)))) := Lib.hid fun w2 ho => by
    have hh := (h.new ((Only.refl _ w).drew)).new ho
    exact ⟨hh.is.frozen 1, rfl, (((Only.refl _ w).drew).trans (ho.mono fun _ f => f.elim)).trans (Only.one _ p.r 1 _), hh.go a2⟩
  clear h hl hq c0 c1 hk hp
  go_enter Tryz.func97, Tryz.ntmps97
  go_wp2_with fail
  refine Steps.region (fun W => W.cell? ⟨p.r, 0, none⟩ = some (.slice p.AB p.nB p.cB) ∧ W.cell? ⟨p.r, 1, none⟩ = some (.int .i64 (a : Nat))) [(true, 0), (true, 1), (true, 2), (true, 3), (true, 4), (true, 5), (true, 6), (true, 7), (true, 8), (false, 9), (true, 10), (true, 11), (true, 12), (true, 13), (true, 14), (true, 15), (true, 16)] (by kernel_rfl) (by kernel_rfl) rfl (by kernel_rfl) (fun _ _ d _ _ h => by cases d <;> exact h) ?_
  refine Steps.take (.slice Al nl cl) rfl HS.out (fun _ _ => by kernel_rfl) ?_
  simp only [Act.put, List.setIfInBounds_toArray, List.set_cons_succ, List.set_cons_zero]
  refine Steps.take (.pointer (some ⟨p.r, 0, none⟩)) rfl HS.out (fun _ _ => by kernel_rfl) ?_
  simp only [Act.put, List.setIfInBounds_toArray, List.set_cons_succ, List.set_cons_zero]
  refine Steps.take (.pointer (some ⟨p.r, 0, none⟩)) rfl HS.out (fun _ _ => by kernel_rfl) ?_
  simp only [Act.put, List.setIfInBounds_toArray, List.set_cons_succ, List.set_cons_zero]
  refine Steps.take (.pointer (some ⟨p.r, 0, none⟩)) rfl HS.out (fun _ _ => by kernel_rfl) ?_
  simp only [Act.put, List.setIfInBounds_toArray, List.set_cons_succ, List.set_cons_zero]
  refine Steps.take (.slice p.AB p.nB p.cB) rfl HS.out (fun _ hW => by obtain ⟨hw1, hw2⟩ := hW; go_simp) ?_
  simp only [Act.put, List.setIfInBounds_toArray, List.set_cons_succ, List.set_cons_zero]
  refine Steps.take (.pointer (some ⟨p.r, 0, none⟩)) rfl HS.out (fun _ _ => by kernel_rfl) ?_
  simp only [Act.put, List.setIfInBounds_toArray, List.set_cons_succ, List.set_cons_zero]
  refine Steps.take (.pointer (some ⟨p.r, 0, none⟩)) rfl HS.out (fun _ _ => by kernel_rfl) ?_
  simp only [Act.put, List.setIfInBounds_toArray, List.set_cons_succ, List.set_cons_zero]
  refine Steps.take (.pointer (some ⟨p.r, 1, none⟩)) rfl HS.out (fun _ _ => by kernel_rfl) ?_
  simp only [Act.put, List.setIfInBounds_toArray, List.set_cons_succ, List.set_cons_zero]
  refine Steps.take (.int .i64 a) rfl HS.out (fun _ hW => by obtain ⟨hw1, hw2⟩ := hW; go_simp) ?_
  simp only [Act.put, List.setIfInBounds_toArray, List.set_cons_succ, List.set_cons_zero]
  refine Steps.call 115 #[.slice Al nl cl, .slice p.AB p.nB p.cB, .int .i64 a] rfl (by kernel_rfl) ((HR.out 1).mono ?_)
  rintro e w2 ⟨rfl, ho2⟩
  have s2 := HK.out w2 ho2
  refine ⟨_, rfl, s2, ?_⟩
  simp only [Act.put, List.setIfInBounds_toArray, List.set_cons_succ, List.set_cons_zero]
  refine Steps.take (.tuple #[.int .i64 y, .int .i64 a2, .int .i64 x]) rfl s2 (fun _ _ => by kernel_rfl) ?_
  simp only [Act.put, List.setIfInBounds_toArray, List.set_cons_succ, List.set_cons_zero]
  refine Steps.take (.int .i64 y) rfl s2 (fun _ _ => by kernel_rfl) ?_
  simp only [Act.put, List.setIfInBounds_toArray, List.set_cons_succ, List.set_cons_zero]
  refine Steps.take (.int .i64 a2) rfl s2 (fun _ _ => by kernel_rfl) ?_
  simp only [Act.put, List.setIfInBounds_toArray, List.set_cons_succ, List.set_cons_zero]
  refine Steps.take (.int .i64 x) rfl s2 (fun _ _ => by kernel_rfl) ?_
  simp only [Act.put, List.setIfInBounds_toArray, List.set_cons_succ, List.set_cons_zero]
  refine Steps.take (.int .i64 y) rfl s2 (fun _ _ => by kernel_rfl) ?_
  simp only [Act.put, List.setIfInBounds_toArray, List.set_cons_succ, List.set_cons_zero]
  refine Steps.take (.int .i64 a2) rfl s2 (fun _ _ => by kernel_rfl) ?_
  simp only [Act.put, List.setIfInBounds_toArray, List.set_cons_succ, List.set_cons_zero]
  refine Steps.take (.int .i64 x) rfl s2 (fun _ _ => by kernel_rfl) ?_
  simp only [Act.put, List.setIfInBounds_toArray, List.set_cons_succ, List.set_cons_zero]
  show wpList _ _ _ _ _ _
  obtain ⟨f1, f2⟩ := HF.out w2 ho2
  have HF2 := Lib.hid f2
  have d1 := s2.2
  clear f2 HF HK HR s2 ho2
  go_wp2
  go_ret2
  exact HF2.out
end Go.Proofs.YtjlkjebmilfgoaaGreat
