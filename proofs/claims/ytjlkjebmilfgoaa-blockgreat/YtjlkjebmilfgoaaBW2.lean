/- Layer 1, the program: a writer of bits. -/
import Derived.Test.YtjlkjebmilfgoaaM2
import Derived.Deep.LoopGhost
import Derived.Deep.DeepCutAuto
/- The writer of layer 1. -/
namespace Go.Proofs.Ytjlkjebmilfgoaa
open Go.RowKit

/-- A writer of k bits, whose bytes are l. -/
def Wr5 (w : World) (b : Nat) (A : Option Addr) (n c k : Nat) (l : List UInt8) : Prop := Is w b 36 [.slice A n c, .int .i64 k] ∧ BRow 5 w A n c l

/-- Or of two bytes, as the model has it. -/
theorem or_bytes (c d : UInt8) : bits .or .u8 (c.toNat : Int) (d.toNat : Int) = ((c ||| d).toNat : Int) := by
  have asBits : ∀ x : UInt8, BitVec.ofInt 8 (x.toNat : Int) = x.toBitVec := fun x => by
    apply BitVec.eq_of_toNat_eq
    have := x.toNat_lt
    simp
  have small : (c.toBitVec ||| d.toBitVec).toNat < 256 := (c ||| d).toNat_lt
  unfold bits
  simp only [IntKind.bits, asBits]
  exact IntWalk.u8_in _ (by omega)
/-- A byte that has begun, and what comes behind its u bits. -/
theorem or_last (c : UInt8) (x u y : Nat) (hu : u ≤ 7) (hc : c.toNat < 2 ^ u) (hy : x * 2 ^ u = y) : ∃ d : UInt8, bits .or .u8 (c.toNat : Int) ((y : Int) % 256) = (d.toNat : Int) ∧ d.toNat = c.toNat + y % 256 := by
  have low : (UInt8.ofNat y).toNat = y % 256 := UInt8.toNat_ofNat'
  obtain ⟨q, hq⟩ : 2 ^ u ∣ y % 256 := by
    rw [← hy]
    exact (Nat.dvd_mod_iff (Nat.pow_dvd_pow 2 (n := 8) (by omega))).2 (Nat.dvd_mul_left _ _)
  refine ⟨c ||| UInt8.ofNat y, ?_, ?_⟩
  · rw [← or_bytes, low]
    rfl
  · rw [UInt8.toNat_or, low, hq]
    exact or_add _ _ _ hc

theorem newWriter (w : World) : Calls Try.prog 5 #[] w fun e w' => e = .returned (.pointer (some ⟨w.heap.size, 0, none⟩)) ∧ w' = w.alloc (.cells #[.slice none 0 0, .int .i64 0] 36) := by
  go_enter Try.func5, Try.ntmps5
  go_wp2
  go_ret
  exact ⟨rfl, rfl⟩

/-- What a writer is behind Put: it has M bits more, its number is t; its row lies where it lay, or is new. -/
def PutPost (b : Nat) (A : Option Addr) (k M t : Nat) (w : World) (e : Ending) (w' : World) : Prop :=
  e = .returned (.tuple #[]) ∧ ∃ A' n' c' l', Wr5 w' b A' n' c' (k + M) l' ∧ n' = (k + M + 7) / 8 ∧ le l' = t ∧ Only (fun j => j = b ∨ Lies A j) w w' ∧ (A' = A ∨ ∃ g, A' = some ⟨g, 0, none⟩ ∧ w.heap.size ≤ g)

def PutRel (b : Nat) (A : Option Addr) (n K t : Nat) (w : World) (gk : Nat) (s7 : Value) (wx : World) : Prop :=
  ∃ A' n' c' l' r', s7 = .int .u64 (r' : Nat) ∧ r' < 549755813888 ∧ Wr5 wx b A' n' c' K l' ∧ Only (fun j => j = b ∨ Lies A j) w wx ∧ (A' = A ∨ ∃ g, A' = some ⟨g, 0, none⟩ ∧ w.heap.size ≤ g) ∧
    le l' + 256 ^ n' * r' = t ∧ 8 * n' ≤ K + 7 ∧ n ≤ n' ∧ K + 8 ≤ gk + 8 * n'

set_option maxHeartbeats 1000000 in
theorem put1 (b : Nat) (A : Option Addr) (n c k v u M : Nat) (m : Int) (l : List UInt8) (w : World) (h : Wr5 w b A n c k l) (hk : k ≤ 1073741824) (hn : n = (k + 7) / 8) (hl : le l < 2 ^ k) (hv : v < 4294967296) (hm : min (max m 0) 32 = (M : Int)) (hM : M ≤ 32) (hu : (k : Int) % 8 = u) (hu7 : u ≤ 7) :
    Calls Try.prog 22 #[.pointer (some ⟨b, 0, none⟩), .int .u32 v, .int .i64 m] w (PutPost b A k M (le l + v % 2 ^ M * 2 ^ k) w) := by
  have c0 := h.1.cell 0 rfl
  have c1 := h.1.cell 1 rfl
  have f0 := h.1.frozen 0
  have f1 := h.1.frozen 1
  have b1 : (k : Int) ≤ 1073741824 := by omega
  have HI := Lib.hid h
  have Hn := Lib.hid hn
  have Hl := Lib.hid hl
  clear h hn hl
  go_enter Try.func22, Try.ntmps22
  go_wp2_with fail
  refine (lowest v M _ (by omega) hM).mono ?_
  obtain ⟨x, hx⟩ : ∃ x, v % 2 ^ M = x := ⟨_, rfl⟩
  have hx2 : x < 4294967296 := by rw [← hx]; exact Nat.lt_of_le_of_lt (Nat.mod_le _ _) hv
  rw [hx]
  have Hx := Lib.hid hx
  clear hx
  rintro e w' ⟨rfl, rfl⟩
  obtain ⟨y, hy⟩ : ∃ y, x * 2 ^ u = y := ⟨_, rfl⟩
  have hp : 2 ^ u ≤ 2 ^ 7 := Nat.pow_le_pow_right (by decide) hu7
  have hy2 : y < 549755813888 := by
    rw [← hy]
    exact Nat.lt_of_le_of_lt (Nat.mul_le_mul_left x hp) (by omega)
  have hyw : IntKind.u64.wrap ((x : Int) * 2 ^ u) = y := by
    rw [show (x : Int) * 2 ^ u = (y : Int) from by rw [← hy]; simp]
    exact IntWalk.u64_in _ (by omega)
  have Hy := Lib.hid hy
  clear hy hp
  go_upto_if 25 with fail
  go_cut [7] (fun s7 wx => ∃ (l1 : List UInt8) (r1 : Nat), s7 = .int .u64 r1 ∧ r1 < 549755813888 ∧ Wr5 wx b A n c k l1 ∧ Only (fun j => j = b ∨ Lies A j) w wx ∧ le l1 + 256 ^ n * r1 = le l + x * 2 ^ k)
  case first =>
    by_cases h0 : 0 < u
    · have d0 : decide (0 < u) = true := by simpa using h0
      obtain ⟨n1, hn1⟩ : ∃ n1, n = n1 + 1 := ⟨n - 1, by have := Hn.out; omega⟩
      subst hn1
      obtain ⟨g, hA, cl, fl⟩ := HI.out.2.cell (i := n1) (by omega)
      subst hA
      obtain ⟨cc, hc1, hc2, hc3⟩ := put_last l n1 u k x HI.out.2.len (by have := Hn.out; omega) Hl.out
      rw [hc1] at cl
      simp only [Option.getD_some] at cl
      obtain ⟨dd, hd1, hd2⟩ := or_last cc x u y hu7 hc2 Hy.out
      have Hd2 := Lib.hid hd2
      have Hc3 := Lib.hid hc3
      have hw1 : wrap64 (n1 : Int) = n1 := IntWalk.wrap64_in _ (by have := Hn.out; omega)
      have hw2 : IntKind.i64.wrap (n1 : Int) = n1 := IntWalk.i64_in _ (by have := Hn.out; omega)
      clear hc1 hc3 hd2
      go_wp2
      go_region
      all_goals
        go_wp2
        go_meet
        refine ⟨l.set n1 dd, y / 256, by go_num, by omega, ⟨?_, ?_⟩, ?_, ?_⟩
        · exact HI.out.1.drew.far (p := ⟨g, n1, none⟩) (fun e => HI.out.2.ne HI.out.1 (by decide) ⟨_, rfl, e.symm⟩) _
        · exact HI.out.2.drew.stored n1 dd
        · exact ((Only.refl _ w).drew).set (p := ⟨g, n1, none⟩) (.inl (.inr ⟨_, rfl, rfl⟩)) _
        · have := Hc3.out dd (by rw [Hy.out]; exact Hd2.out)
          rw [Hy.out] at this
          exact this
    · have d0 : decide (0 < u) = false := by simpa using h0
      go_wp2
      go_meet
      have hu0 : u = 0 := by omega
      refine ⟨l, y, rfl, hy2, HI.out, Only.refl _ _, ?_⟩
      rw [← Hy.out, hu0, pow256, show 8 * n = k from by rw [Hn.out]; omega]
      simp [Nat.mul_comm]
  case rest =>
    obtain ⟨l1, r1, rfl, hr1, hw1, ho1, he1⟩ := hcut
    have c1' := hw1.1.cell 1 rfl
    have f1' := hw1.1.frozen 1
    have HW := Lib.hid hw1
    have HO := Lib.hid ho1
    have HE := Lib.hid he1
    clear c0 c1 f0 f1 hw1 ho1 he1 hyw
    go_wp2
    go_loopg [7] (k + M + 8) (PutRel b A n (k + M) (le l + x * 2 ^ k) w)
    case atStart =>
      refine ⟨A, n, c, l1, r1, rfl, hr1, ⟨?_, ?_⟩, ?_, .inl rfl, HE.out, ?_, Nat.le_refl _, by omega⟩
      · exact HW.out.1.set 1 _
      · exact HW.out.2.only (Only.one wc b 1 _) (fun j hj e => HW.out.2.ne HW.out.1 (by decide) (e ▸ hj))
      · exact HO.out.trans ((Only.one wc b 1 _).mono fun j e => .inl e)
      · rw [Hn.out]; omega
    case round =>
      obtain ⟨A', n', c', l', r', rfl, hr', hw', ho', ha', he', h8, hnn, hg⟩ := hrel
      have c0' := hw'.1.cell 0 rfl
      have c1' := hw'.1.cell 1 rfl
      have f0' := hw'.1.frozen 0
      have HW' := Lib.hid hw'
      have HO' := Lib.hid ho'
      have HA' := Lib.hid ha'
      have HE' := Lib.hid he'
      clear HW HO HE hw' ho' ha' he'
      by_cases hlt : 8 * n' < k + M
      · obtain ⟨cb, hby, hcb⟩ : ∃ cb : UInt8, (r' : Int) % 256 = (cb.toNat : Int) ∧ cb = UInt8.ofNat r' := ⟨UInt8.ofNat r', by rw [UInt8.toNat_ofNat']; omega, rfl⟩
        have Hcb := Lib.hid hcb
        clear hcb
        go_wp2
        go_quiet (fail)
        go_wp2_with (at_builtin
                     refine wpList_append_brow rfl (.tmp 67) (.tmp 70) 24 24 5 rfl Try.underlying24 (by kernel_rfl) A' n' c' 1 l' [cb] (.slice (some ⟨wr.heap.size, 0, none⟩) 1 1) rfl rfl ((HW'.out.2.drewN nq).alloc _) rfl (Src.oneByte Try.underlying24 (wr.drewN nq) cb 1 5) (by omega) ?_
                     intro A2 c2 w2 hrow2 honly2 hlies2
                     have hI2 : Is w2 b 36 [.slice A' n' c', .int .i64 (k + M : Nat)] := ((HW'.out.1.drewN nq).alloc _).only honly2 (HW'.out.2.ne HW'.out.1 (by decide))
                     have c0'' := hI2.cell 0 rfl
                     have f0'' := hI2.frozen 0
                     have HR2 := Lib.hid hrow2
                     have HO2 := Lib.hid honly2
                     have HL2 := Lib.hid hlies2
                     have HI2 := Lib.hid hI2
                     clear hrow2 honly2 hlies2 hI2)
        go_roundg (gk - 8)
        case measure => omega
        case rel =>
          have hone : Only (fun j => j = b ∨ Lies A j) w (wr.drewN nq) := HO'.out.drewN nq
          have hlow : ∀ j, Lies A' j → (j = b ∨ Lies A j) ∨ w.heap.size ≤ j := by
            rintro j ⟨ad, e1, e2⟩
            rcases HA'.out with e3 | ⟨g, e3, e4⟩
            · exact .inl (.inr ⟨ad, e3 ▸ e1, e2⟩)
            · rw [e3] at e1
              obtain rfl := Option.some.inj e1
              exact .inr (by rw [← e2]; exact e4)
          refine ⟨A2, n' + 1, c2, l' ++ [cb], r' / 256, by go_num, by omega, ⟨HI2.out.set 0 _, HR2.out.only (Only.one w2 b 0 _) ?_⟩, ?_, ?_, ?_, by omega, by omega, by omega⟩
          · rintro j hj rfl
            exact HR2.out.ne HI2.out (by decide) hj
          · exact ((hone.alloc _).andThen HO2.out hlow).andThen (Only.one w2 b 0 _) (fun j e => .inl (.inl e))
          · rcases HL2.out with e | e
            · rw [e]; exact HA'.out
            · refine .inr ⟨_, e, ?_⟩
              have := HO'.out.size
              simp
              omega
          · rw [Hcb.out]
            exact put_step l' n' r' _ HW'.out.2.len HE'.out
      · go_wp2
        go_quiet (fail)
        go_wp2
        go_end0
        have hx1 : x < 2 ^ M := by rw [← Hx.out]; exact Nat.mod_lt _ (Nat.pow_pos (by decide))
        obtain ⟨hr0, hfin⟩ := none_left (le l') r' _ n' (k + M) HE'.out (put_lt _ _ _ _ Hl.out hx1) (by omega)
        refine ⟨rfl, A', n', c', l', ⟨HW'.out.1.drewN _, HW'.out.2.drewN _⟩, by omega, ?_, HO'.out.drewN _, HA'.out⟩
        rw [hfin, Hx.out]
end Go.Proofs.Ytjlkjebmilfgoaa

/- The writer of layer 1: Put at any number of bits, Align, Write, Len, Text. -/
namespace Go.Proofs.Ytjlkjebmilfgoaa
open Go.RowKit

/-- n brought to 0 up to 32. -/
def clamp (m : Int) : Nat := (min (max m 0) 32).toNat
theorem clamp_le (m : Int) : clamp m ≤ 32 := by unfold clamp; omega
theorem clamp_eq (m : Int) : min (max m 0) 32 = (clamp m : Int) := by unfold clamp; omega

/-- A writer that is as a writer should be: k bits, its number t. -/
structure Wrt (w : World) (b : Nat) (A : Option Addr) (n c k : Nat) (l : List UInt8) : Prop where
  wr : Wr5 w b A n c k l
  len : n = (k + 7) / 8
  lt : le l < 2 ^ k

theorem put (b : Nat) (A : Option Addr) (n c k v : Nat) (m : Int) (l : List UInt8) (w : World) (h : Wrt w b A n c k l) (hk : k ≤ 1073741824) (hv : v < 4294967296) :
    Calls Try.prog 22 #[.pointer (some ⟨b, 0, none⟩), .int .u32 v, .int .i64 m] w (PutPost b A k (clamp m) (le l + v % 2 ^ clamp m * 2 ^ k) w) :=
  put1 b A n c k v (k % 8) (clamp m) m l w h.wr hk h.len h.lt hv (clamp_eq m) (clamp_le m) (by omega) (by omega)

theorem text (b : Nat) (A : Option Addr) (n c k : Nat) (l : List UInt8) (w : World) (h : Wr5 w b A n c k l) :
    Calls Try.prog 8 #[.pointer (some ⟨b, 0, none⟩)] w fun e w' => e = .returned (.string ⟨l.toArray⟩) ∧ w = w' := by
  have c0 := h.1.cell 0 rfl
  have hc := h.2.toText Try.underlying24 Try.underlying5 Try.underlying9
  clear h
  go_enter Try.func8, Try.ntmps8
  go_wp2
  go_ret
  exact ⟨rfl, rfl⟩


theorem wrLen (b : Nat) (A : Option Addr) (n c k : Nat) (l : List UInt8) (w : World) (h : Wr5 w b A n c k l) :
    Calls Try.prog 7 #[.pointer (some ⟨b, 0, none⟩)] w fun e w' => e = .returned (.int .i64 k) ∧ w = w' := by
  have c1 := h.1.cell 1 rfl
  clear h
  go_enter Try.func7, Try.ntmps7
  go_wp2
  go_ret
  exact ⟨rfl, rfl⟩

theorem walign (b : Nat) (A : Option Addr) (n c k : Nat) (l : List UInt8) (w : World) (h : Wr5 w b A n c k l) (hn : n ≤ 1073741824) :
    Calls Try.prog 23 #[.pointer (some ⟨b, 0, none⟩)] w fun e w' => e = .returned (.tuple #[]) ∧ Wr5 w' b A n c (8 * n) l ∧ Only (· = b) w w' := by
  have c0 := h.1.cell 0 rfl
  have c1 := h.1.cell 1 rfl
  have f1 := h.1.frozen 1
  have b1 : (n : Int) ≤ 1073741824 := by omega
  have HI := Lib.hid h
  clear h
  go_enter Try.func23, Try.ntmps23
  go_wp2
  go_end0
  refine ⟨rfl, ⟨?_, HI.out.2.only (Only.one w b 1 _) (fun j hj e => HI.out.2.ne HI.out.1 (by decide) (e ▸ hj))⟩, Only.one w b 1 _⟩
  have := HI.out.1.set 1 (.int .i64 (n * 8 : Int))
  rw [show ((8 * n : Nat) : Int) = n * 8 from by omega]
  exact this

def WrPost (b : Nat) (A : Option Addr) (n : Nat) (l r : List UInt8) (w : World) (e : Ending) (w' : World) : Prop :=
  e = .returned (.tuple #[]) ∧ ∃ A' c', Wr5 w' b A' (n + r.length) c' (8 * (n + r.length)) (l ++ r) ∧ Only (fun j => j = b ∨ Lies A j) w w' ∧ (A' = A ∨ ∃ g, A' = some ⟨g, 0, none⟩ ∧ w.heap.size ≤ g)

set_option maxHeartbeats 1000000 in
theorem wrWrite (b : Nat) (A : Option Addr) (n c k : Nat) (l : List UInt8) (s : ByteArray) (w : World) (h : Wr5 w b A n c k l) (hn2 : n + s.size ≤ 1073741824) :
    Calls Try.prog 12 #[.pointer (some ⟨b, 0, none⟩), .string s] w (WrPost b A n l s.data.toList w) := by
  have c0 := h.1.cell 0 rfl
  have hl : s.data.toList.length = s.size := by simp
  have HI := Lib.hid h
  have Hl := Lib.hid hl
  clear h hl
  go_enter Try.func12, Try.ntmps12
  go_wp2_with (first
    | (at_builtin
       refine wpList_append_brow rfl (.tmp 10) (.tmp 11) 24 9 5 rfl Try.underlying24 (by kernel_rfl) A n c s.size l s.data.toList (.string s) rfl rfl HI.out.2 Hl.out (Src.text Try.underlying9 w s) (by omega) ?_
       intro A2 c2 w2 hrow2 honly2 hlies2
       have hI2 : Is w2 b 36 [.slice A n c, .int .i64 k] := HI.out.1.only honly2 (HI.out.2.ne HI.out.1 (by decide))
       have c0'' := hI2.cell 0 rfl
       have f0'' := hI2.frozen 0
       have HR2 := Lib.hid hrow2
       have HO2 := Lib.hid honly2
       have HL2 := Lib.hid hlies2
       have HI2 := Lib.hid hI2
       clear hrow2 honly2 hlies2 hI2)
    | (go_at_call 23
       have hne : ∀ j, Lies A2 j → ¬ j = b := fun j hj e => HR2.out.ne HI2.out (by decide) (e ▸ hj)
       refine (walign b A2 (n + s.size) c2 k (l ++ s.data.toList) _ ⟨HI2.out.set 0 _, HR2.out.only (Only.one w2 b 0 _) hne⟩ (by omega)).mono ?_
       rintro e w3 ⟨rfl, hw3, ho3⟩
       have HW3 := Lib.hid hw3
       have HO3 := Lib.hid ho3
       clear hw3 ho3 hne))
  go_end0
  refine ⟨rfl, A2, c2, ?_, ?_, ?_⟩
  · rw [Hl.out]; exact HW3.out
  · exact (((Only.refl _ w).andThen HO2.out (fun j hj => .inl (.inr hj))).andThen (Only.one w2 b 0 _) (fun j e => .inl (.inl e))).andThen HO3.out (fun j e => .inl (.inl e))
  · rcases HL2.out with e | e
    · exact .inl e
    · exact .inr ⟨_, e, Nat.le_refl _⟩
end Go.Proofs.Ytjlkjebmilfgoaa
