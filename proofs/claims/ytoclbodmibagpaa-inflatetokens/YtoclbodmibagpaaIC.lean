/- Layer 8, the program: codes that are told. -/
import Derived.Test.YtoclbodmibagpaaIB
/- Layer 8, the program: the code by which the lengths of the two others are told. -/
namespace Go.Proofs.Ytoclbodmibagpaa
open Go.RowKit

theorem firsts_length (B : List UInt8) (a : Nat) : ∀ i, (firsts B a i).length = 19
  | 0 => by simp [firsts]
  | i + 1 => by rw [firsts, List.length_set]; exact firsts_length B a i
theorem firsts_low (B : List UInt8) (a : Nat) : ∀ i, Low (firsts B a i)
  | 0 => by intro x hx; simp [firsts] at hx; omega
  | i + 1 => by
    intro x hx
    rw [firsts] at hx
    rcases List.mem_or_eq_of_mem_set hx with h | h
    · exact firsts_low B a i x h
    · have := nm_lt B (a + 3 * i) 3
      omega
theorem firsts_lens (B : List UInt8) (a i : Nat) : Lens (firsts B a i) := ⟨firsts_low B a i, by rw [firsts_length]; decide⟩

def FirstPost (w : World) (b : Nat) (s : ByteArray) (a n : Nat) (e : Ending) (w' : World) : Prop := Only (· = b) w w' ∧
  if 8 * s.size < a + 3 * n then e = .returned (.tuple #[.pointer none, .int .i64 3]) else Rd w' b s (a + 3 * n) false ∧
    if (kd (firsts (bitsOf s.data.toList) a n)).2 ≠ 0 then e = .returned (.tuple #[.pointer none, .int .i64 10]) else ∃ T, e = .returned (.tuple #[.pointer (some ⟨T, 0, none⟩), .int .i64 0]) ∧ Tab w' w.heap.size T (firsts (bitsOf s.data.toList) a n)

/-- Where reading the first code's lengths stands. -/
structure FAt (w : World) (b : Nat) (s : ByteArray) (a G O k : Nat) (l : List Nat) (a' : Nat) (f : Bool) (wx : World) : Prop where
  len : l.length = 19
  rd : Rd wx b s a' f
  le : a' ≤ 8 * s.size
  row : Row 142 wx (some ⟨G, 0, none⟩) 19 19 (ints l)
  ord : Is wx O 142 (ints order)
  bad : f = true → 8 * s.size < a + 3 * k
  good : f = false → a' = a + 3 * k ∧ l = firsts (bitsOf s.data.toList) a k
  only : Only (· = b) w wx

theorem one_bits (s : ByteArray) (a' : Nat) (f : Bool) (ha : a' ≤ 8 * s.size) : ∃ v b2 f2, rBits s a' f 3 = (v, b2, f2) ∧ v < 8 ∧ b2 ≤ 8 * s.size ∧ (f = true → f2 = true) ∧ (f = false → (f2 = true → 8 * s.size < a' + 3) ∧ (f2 = false → v = nm (bitsOf s.data.toList) a' 3 ∧ b2 = a' + 3)) := by
  unfold rBits
  by_cases h : short s.size a' f 3 = true
  · rw [if_pos h]
    refine ⟨0, a', true, rfl, by decide, ha, fun _ => rfl, fun hf => ⟨fun _ => ?_, fun h => by cases h⟩⟩
    subst hf
    simp [short] at h
    omega
  · rw [if_neg h]
    have hh := h
    simp [short] at hh
    refine ⟨_, _, _, rfl, ?_, ?_, fun hf => ?_, fun hf => ⟨fun h => (by cases h), fun _ => ⟨nm_of s a' 3, rfl⟩⟩⟩
    · exact Nat.mod_lt _ (by decide)
    · show a' + 3 ≤ _
      omega
    · subst hf
      simp [short] at h

theorem slice19 (H K : Nat) (h : K ≤ 19) (W : World) : (Instr.sliceAt 142 (.pointer (some ⟨H, 0, none⟩)) none (some (.int .i64 (K : Nat))) none).run Try.prog W = .ok (.slice (some ⟨H, 0, none⟩) K 19) W := by
  obtain rfl | rfl | rfl | rfl | rfl | rfl | rfl | rfl | rfl | rfl | rfl | rfl | rfl | rfl | rfl | rfl | rfl | rfl | rfl | rfl : K = 0 ∨ K = 1 ∨ K = 2 ∨ K = 3 ∨ K = 4 ∨ K = 5 ∨ K = 6 ∨ K = 7 ∨ K = 8 ∨ K = 9 ∨ K = 10 ∨ K = 11 ∨ K = 12 ∨ K = 13 ∨ K = 14 ∨ K = 15 ∨ K = 16 ∨ K = 17 ∨ K = 18 ∨ K = 19 := by omega
  all_goals kernel_rfl
theorem slice19a (H : Nat) (W : World) : (Instr.sliceAt 142 (.pointer (some ⟨H, 0, none⟩)) none none none).run Try.prog W = .ok (.slice (some ⟨H, 0, none⟩) 19 19) W := by kernel_rfl
set_option maxRecDepth 100000 in
set_option maxHeartbeats 4000000 in
theorem firstCode (b d : Nat) (s : ByteArray) (a n : Nat) (w : World) (hc : w.cell? ⟨d, 0, none⟩ = some (.pointer (some ⟨b, 0, none⟩))) (hbd : d ≠ b) (hr : Rd w b s a false) (hs : s.size ≤ 1073741824) (ha : a ≤ 8 * s.size) (hn : n ≤ 19) :
    Calls Try.prog 96 #[.pointer (some ⟨d, 0, none⟩), .int .i64 n] w (FirstPost w b s a n) := by
  have hz := zeros_made (e := 142) (w := w) (kd := .i64) 19 (by decide)
  obtain ⟨wa, hwa⟩ : ∃ wa, w.alloc (.cells (List.replicate 19 (Value.int .i64 0)).toArray 142) = wa := ⟨_, rfl⟩
  rw [hwa] at hz
  obtain ⟨G, hG⟩ : ∃ G, w.heap.size = G := ⟨_, rfl⟩
  rw [hG] at hz
  have oa : Only (fun _ => False) w wa := by rw [← hwa]; exact (Only.refl _ w).alloc _
  have hGa : G < wa.heap.size := hz.1.lies G ⟨_, rfl, rfl⟩
  have HF := Lib.hid (firstOrder wa)
  have hlb := hr.lt
  have hld := cell_lt hc
  have hGb : G ≠ b := by omega
  have hGd : G ≠ d := by
    have : d < w.heap.size := hld
    omega
  have HD : Hid (∀ wx, Only (· = b) w wx → wx.cell? ⟨d, 0, none⟩ = some (.pointer (some ⟨b, 0, none⟩))) := Lib.hid fun wx ho => ho.cell hc hbd
  have HG := Lib.hid hG
  have H0 : Hid (∀ wb we X, Only (fun _ => False) wa wb → Is we wb.heap.size 142 (ints order) → Only (fun j => j = wb.heap.size) (wb.alloc X) we → FAt w b s a G wb.heap.size 0 (List.replicate 19 0) a false we ∧ G ≠ wb.heap.size ∧ b ≠ wb.heap.size) := Lib.hid fun wb we X ob hie oe => by
    have oc : Only (fun _ => False) wa we := (ob.alloc X).andThen oe fun j e => .inr (by rw [e]; exact ob.size)
    refine ⟨⟨rfl, hr.only (oa.trans oc) (fun f => f), ha, hz.1.only oc (fun _ _ f => f), hie, fun h => (by cases h), fun _ => ⟨rfl, rfl⟩, (oa.trans oc).mono fun _ f => f.elim⟩, ?_, ?_⟩
    · have := ob.size
      omega
    · have := (oa.trans ob).size
      omega
  have hwz : w.alloc (.cells #[.int .i64 0, .int .i64 0, .int .i64 0, .int .i64 0, .int .i64 0, .int .i64 0, .int .i64 0, .int .i64 0, .int .i64 0, .int .i64 0, .int .i64 0, .int .i64 0, .int .i64 0, .int .i64 0, .int .i64 0, .int .i64 0, .int .i64 0, .int .i64 0, .int .i64 0] 142) = wa := hwa
  clear hz hr hc ha oa hG hlb hld hwa
  go_enter Try.func96, Try.ntmps96
  go_wp2_with fail
  refine HF.out.mono ?_
  rintro e w1 ⟨rfl, o1⟩
  have HI1 := Lib.hid (Is.new w1 142 (List.replicate 19 (.int .i64 0)))
  have HE1 : Hid (∀ we X, Is we w1.heap.size 142 (ints order) → Only (fun j => j = w1.heap.size) (w1.alloc X) we → FAt w b s a G w1.heap.size 0 (List.replicate 19 0) a false we ∧ G ≠ w1.heap.size ∧ b ≠ w1.heap.size) := Lib.hid fun we X h1 h2 => H0.out w1 we X o1 h1 h2
  clear o1 H0 HF hwz
  go_wp2_with ((with_reducible show wpList _ _ _ (Oper.mk _ (Op.store _ _ _) _ _ _ _ :: _) _ _)
               refine wpList_store_is rfl 142 (.tmp 7) (.tmp 11) rfl w1.heap.size (ints order) (by rfl) (by rfl) 142 _ HI1.out (by kernel_rfl) (by kernel_rfl) (ints_one _) ?_
               intro we hwe1 hwe2
               have HE := Lib.hid (HE1.out we _ hwe1 hwe2)
               have hsl := slice19 w1.heap.size n hn we
               clear hwe1 hwe2)
  rw [HG.out]
  obtain ⟨O, hO⟩ : ∃ O, w1.heap.size = O := ⟨_, rfl⟩
  rw [hO] at HE ⊢
  have H0 := Lib.hid HE.out.1
  have hGO := HE.out.2.1
  have hbO := HE.out.2.2
  clear HE HE1 HI1 hsl hO
  go_loopg [9, 15] n (fun gk u i wx => ∃ (k : Nat) (l : List Nat) (a' : Nat) (f : Bool), i = .int .i64 k ∧ k + gk ≤ n ∧ n ≤ k + gk ∧ Hid (FAt w b s a G O k l a' f wx))
  case atStart => exact ⟨0, _, _, _, rfl, by omega, by omega, H0⟩
  case round =>
    clear H0
    obtain ⟨k, l, a', f, rfl, hk, hk2, HF⟩ := hrel
    by_cases hlt : k < n
    · have hk19 : k < 19 := by omega
      obtain ⟨v, b2, f2, e1, v8, b8, q1, q2⟩ := one_bits s a' f HF.out.le
      have HB := Lib.hid (rdBits b s a' f 3 wr HF.out.rd hs HF.out.le)
      rw [e1] at HB
      have hol := order_lt k
      have hok := HF.out.ord.cell k (ints_at order k hk19)
      obtain ⟨o, ho⟩ : ∃ o, order.getD k 0 = o := ⟨_, rfl⟩
      rw [show ln order k = o from ho] at hok
      rw [ho] at hol
      have hcd := HD.out wr HF.out.only
      have HN : Hid (∀ w2, Rd w2 b s b2 f2 → Only (· = b) wr w2 → (∃ u, w2.cell? ⟨G, o, none⟩ = some u) ∧ w2.frozen? ⟨G, o, none⟩ = false ∧ FAt w b s a G O (k + 1) (l.set o v) b2 f2 (w2.setCell ⟨G, o, none⟩ (.int .i64 v))) := Lib.hid fun w2 r2 o2 => by
        have hrow : Row 142 w2 (some ⟨G, 0, none⟩) 19 19 (ints l) := HF.out.row.only o2 (by rintro j ⟨ad, e, rfl⟩ e2; obtain rfl := Option.some.inj e; exact hGb e2)
        obtain ⟨g', e3, e4, e5⟩ := hrow.cell (ints_at l o (by rw [HF.out.len]; exact hol))
        simp only [Option.some.injEq, Addr.mk.injEq, and_true] at e3
        subst e3
        refine ⟨⟨_, e4⟩, e5, by rw [List.length_set]; exact HF.out.len, r2.only (Only.one w2 G o _) (fun e => hGb e.symm), b8, ?_, (HF.out.ord.only o2 fun e => hbO e.symm).far (Ne.symm hGO) _, ?_, ?_, ?_⟩
        · rw [← ints_set]
          exact hrow.set o _
        · intro hf
          cases f with
          | true => have := HF.out.bad rfl; omega
          | false =>
            have h1 := (q2 rfl).1 hf
            have h2 := (HF.out.good rfl).1
            omega
        · intro hf
          cases f with
          | true => have := q1 rfl; rw [hf] at this; cases this
          | false =>
            obtain ⟨h1, h2⟩ := (q2 rfl).2 hf
            obtain ⟨h3, h4⟩ := HF.out.good rfl
            refine ⟨by omega, ?_⟩
            rw [firsts, ho, ← h4, h1, h3]
        · exact (HF.out.only.trans o2).andThen (Only.one w2 G o _) fun j e => .inr (by rw [HG.out]; omega)
      clear e1 q1 q2 b8 ho HF
      go_wp2_with fail
      refine HB.out.mono ?_
      rintro e w2 ⟨rfl, hr2, ho2⟩
      obtain ⟨⟨u, hu⟩, hfz, hfa⟩ := HN.out w2 hr2 ho2
      have HFA := Lib.hid hfa
      clear hr2 ho2 hfa HB HN
      go_wp2_with fail
      go_roundg (gk - 1)
      case measure => omega
      case rel => exact ⟨k + 1, _, _, _, by go_num, by omega, by omega, HFA⟩
    · obtain rfl : k = n := by omega
      have hsd := HD.out wr HF.out.only
      cases f with
      | true =>
        have HP : Hid (FirstPost w b s a k (.returned (.tuple #[.pointer none, .int .i64 3])) wr) := Lib.hid ⟨HF.out.only, by rw [if_pos (HF.out.bad rfl)]⟩
        have HRD := Lib.hid HF.out.rd
        clear HF HD
        go_wp2_with fail
        refine (err b s a' true wr HRD.out).mono ?_
        rintro e w3 ⟨rfl, rfl⟩
        go_wp2
        go_ret2
        exact HP.out
      | false =>
        obtain ⟨g1, g2⟩ := HF.out.good rfl
        have hle := HF.out.le
        have hin : ¬ 8 * s.size < a + 3 * k := by omega
        have HRD := Lib.hid HF.out.rd
        have HFO := Lib.hid HF.out.only
        have hlen := firsts_lens (bitsOf s.data.toList) a k
        rw [← g2] at hlen
        have hsee := HF.out.row.see
        have hl19 := HF.out.len
        rcases kd_two l with kk | kk
        · have HN := Lib.hid (new_yes (some ⟨G, 0, none⟩) 19 19 _ l wr hsee (Nat.le_refl _) hl19 (by decide) hlen.low kk)
          have HP : Hid (∀ T w2, Tab w2 wr.heap.size T l → Only (fun _ => False) wr w2 → FirstPost w b s a k (.returned (.tuple #[.pointer (some ⟨T, 0, none⟩), .int .i64 0])) w2) := Lib.hid fun T w2 t o => by
            refine ⟨HFO.out.trans (o.mono fun _ f => f.elim), ?_⟩
            rw [if_neg hin]
            refine ⟨by rw [← g1]; exact HRD.out.only o fun f => f, ?_⟩
            rw [← g2, if_neg (by rw [kk]; simp)]
            exact ⟨T, rfl, t.less HFO.out.size⟩
          have hsa := slice19a G wr
          clear HF HD hsee hlen
          go_wp2_with fail
          refine (err b s a' false wr HRD.out).mono ?_
          rintro e w3 ⟨rfl, rfl⟩
          go_wp2_with fail
          refine HN.out.mono ?_
          rintro e w4 ⟨T, rfl, t4, o4, _⟩
          have HPP := Lib.hid (HP.out T w4 t4 o4)
          clear t4 o4 HN HP
          go_wp2
          go_ret2
          exact HPP.out
        · have HN := Lib.hid (new_bad (some ⟨G, 0, none⟩) 19 19 _ 10 wr (by have := check_yes (some ⟨G, 0, none⟩) 19 19 _ l wr hsee hl19 (by decide) hlen.low; rw [kk] at this; exact this) (by decide))
          have HP : Hid (∀ w2, Only (fun _ => False) wr w2 → FirstPost w b s a k (.returned (.tuple #[.pointer none, .int .i64 10])) w2) := Lib.hid fun w2 o => by
            refine ⟨HFO.out.trans (o.mono fun _ f => f.elim), ?_⟩
            rw [if_neg hin]
            refine ⟨by rw [← g1]; exact HRD.out.only o fun f => f, ?_⟩
            rw [← g2, if_pos (by rw [kk]; decide)]
          have hsa := slice19a G wr
          clear HF HD hsee hlen
          go_wp2_with fail
          refine (err b s a' false wr HRD.out).mono ?_
          rintro e w3 ⟨rfl, rfl⟩
          go_wp2_with fail
          refine HN.out.mono ?_
          rintro e w4 ⟨rfl, o4⟩
          have HPP := Lib.hid (HP.out w4 o4)
          clear o4 HN HP
          go_wp2
          go_ret2
          exact HPP.out
end Go.Proofs.Ytoclbodmibagpaa

/- Layer 8, the program: lengths by the first code. -/
namespace Go.Proofs.Ytoclbodmibagpaa
open Go.RowKit

theorem mRow_step (B : List UInt8) (l : List Nat) (n f a : Nat) (o : List Nat) : mRow B l n (f + 1) a o =
    if n ≤ o.length then (0, a, o)
    else if (rdp l B a).2.2 ≠ 0 then ((rdp l B a).2.2, a, o)
    else if (rdp l B a).1 < 16 then mRow B l n f (rdp l B a).2.1 (o ++ [(rdp l B a).1])
    else if (rdp l B a).1 = 16 ∧ o.length = 0 then (2, a, o)
    else if B.length < (rdp l B a).2.1 + tw (rdp l B a).1 then (3, a, o)
    else if n < o.length + (tv (rdp l B a).1 + nm B (rdp l B a).2.1 (tw (rdp l B a).1)) then (2, a, o)
    else mRow B l n f ((rdp l B a).2.1 + tw (rdp l B a).1) (o ++ List.replicate (tv (rdp l B a).1 + nm B (rdp l B a).2.1 (tw (rdp l B a).1)) (if (rdp l B a).1 = 16 then o.getD (o.length - 1) 0 else 0)) := rfl
theorem mRow_full (B : List UInt8) (l : List Nat) (n : Nat) : ∀ (f a : Nat) (o : List Nat), n ≤ o.length → mRow B l n f a o = (0, a, o)
  | 0, a, o, _ => rfl
  | f + 1, a, o, h => by rw [mRow_step, if_pos h]
theorem rdp_symbol19 (l : List Nat) (b : List UInt8) (a : Nat) (h : l.length ≤ 19) : (rdp l b a).1 < 19 := by
  rcases scan_symbol l b (lg l) 1 0 a with h1 | h1
  · exact Nat.lt_of_lt_of_le h1 h
  · show (scan l b (lg l) 1 0 a).1 < 19
    omega
theorem tw_tv (y : Nat) : 1 ≤ tv y ∧ tv y ≤ 11 ∧ tw y ≤ 7 := by unfold tv tw; split <;> split <;> (try split) <;> omega

/-- Where reading the lengths stands. -/
structure RAt (w : World) (b : Nat) (s : ByteArray) (a : Nat) (A : Option Addr) (z c : Nat) (o : List Nat) (wx : World) : Prop where
  rd : Rd wx b s a false
  row : Row 3 wx A z c (ints o)
  len : o.length = z
  only : Only (· = b) w wx
  lies : ∀ j, Lies A j → w.heap.size ≤ j
  bl : b < w.heap.size
theorem RAt.read {w wx wy : World} {b : Nat} {s : ByteArray} {a a2 : Nat} {A : Option Addr} {z c : Nat} {o : List Nat} (h : RAt w b s a A z c o wx) (k : Only (· = b) wx wy) (hr : Rd wy b s a2 false) : RAt w b s a2 A z c o wy :=
  ⟨hr, h.row.only k (fun j hj e => by have := h.lies j hj; have := h.bl; omega), h.len, h.only.trans k, h.lies, h.bl⟩
theorem RAt.new {w wx wy : World} {b : Nat} {s : ByteArray} {a : Nat} {A : Option Addr} {z c : Nat} {o : List Nat} (h : RAt w b s a A z c o wx) (k : Only (fun _ => False) wx wy) : RAt w b s a A z c o wy :=
  ⟨h.rd.only k (fun f => f), h.row.only k (fun _ _ f => f), h.len, h.only.trans (k.mono fun _ f => f.elim), h.lies, h.bl⟩
theorem RAt.more {w wx wy : World} {b : Nat} {s : ByteArray} {a : Nat} {A A2 : Option Addr} {z c c2 m : Nat} {o r : List Nat} (h : RAt w b s a A z c o wx) (hr : Row 3 wy A2 (z + m) c2 (ints o ++ ints r)) (hl : r.length = m) (ho : Only (Lies A) wx wy) (ha : A2 = A ∨ A2 = some ⟨wx.heap.size, 0, none⟩) : RAt w b s a A2 (z + m) c2 (o ++ r) wy := by
  have hb := h.bl
  have hsz := h.only.size
  refine ⟨h.rd.only ho (fun hj => by have := h.lies b hj; omega), by rw [ints_append]; exact hr, by rw [List.length_append, h.len, hl], h.only.andThen ho fun j hj => .inr (h.lies j hj), fun j hj => ?_, hb⟩
  rcases ha with e | e
  · exact h.lies j (e ▸ hj)
  · obtain ⟨ad, e1, e2⟩ := hj
    rw [e] at e1
    obtain rfl := Option.some.inj e1
    have e3 : wx.heap.size = j := e2
    omega

def RowPost (w : World) (b : Nat) (s : ByteArray) (n : Nat) (r : Nat × Nat × List Nat) (e : Ending) (w' : World) : Prop := Only (· = b) w w' ∧
  if r.1 ≠ 0 then e = .returned (.tuple #[.slice none 0 0, .int .i64 r.1]) else ∃ A c, e = .returned (.tuple #[.slice A n c, .int .i64 0]) ∧ RAt w b s r.2.1 A n c r.2.2 w'

theorem make_cap (n : Nat) (h : n ≤ 1000) (w : World) : (Instr.makeSlice 26 (.int .i64 0) (.int .i64 n)).run Try.prog w = .ok (.slice (some ⟨w.heap.size, 0, none⟩) 0 n) (w.alloc (.cells (List.replicate n (Value.int .i64 0)).toArray 3)) := by
  obtain ⟨i, hi, hz, hsz, hby⟩ := info_parts info3
  have h := run_make (P := Try.prog) w 26 3 i (.int .i64 0) Try.underlying26 hi hz .i64 .i64 0 n (by omega) (by omega) (by rw [hby]; omega) (by omega)
  have e1 : madeCells (Value.int .i64 0).cells (n * 1) = (List.replicate n (Value.int .i64 0)).toArray := by
    apply Array.ext'
    rw [Value.cells, toList_madeCells_one]
    · simp
    all_goals intros; simp_all
  rw [Int.toNat_natCast, hsz, e1] at h
  exact h

set_option maxRecDepth 100000 in
set_option maxHeartbeats 4000000 in
theorem prow (b d lo T : Nat) (s : ByteArray) (l : List Nat) (a n : Nat) (w : World) (hc : w.cell? ⟨d, 0, none⟩ = some (.pointer (some ⟨b, 0, none⟩))) (hbd : d ≠ b) (hr : Rd w b s a false) (hT : Tab w lo T l) (hbl : b < lo) (hl : Low l) (h19 : l.length ≤ 19)
    (hs : s.size ≤ 1073741824) (ha : a ≤ 8 * s.size) (hn1 : 1 ≤ n) (hn : n ≤ 400) :
    Calls Try.prog 97 #[.pointer (some ⟨d, 0, none⟩), .pointer (some ⟨T, 0, none⟩), .int .i64 n] w (RowPost w b s n (mRow (bitsOf s.data.toList) l n n a [])) := by
  obtain ⟨r, hr0⟩ : ∃ r, mRow (bitsOf s.data.toList) l n n a [] = r := ⟨_, rfl⟩
  rw [hr0]
  have hmk := make_cap n (by omega) w
  have hoa : Only (fun _ => False) w (w.alloc (.cells (List.replicate n (Value.int .i64 0)).toArray 3)) := (Only.refl _ w).alloc _
  have h0 : RAt w b s a (some ⟨w.heap.size, 0, none⟩) 0 n [] (w.alloc (.cells (List.replicate n (Value.int .i64 0)).toArray 3)) := by
    refine ⟨hr.only hoa fun f => f, ⟨rfl, .inr ⟨w.heap.size, _, (0, 0), rfl, heap_alloc_new w _, Nat.zero_le _, by unfold maxLen; omega, by simp, by simp [ints], fun i _ => by simp⟩⟩, rfl, hoa.mono fun _ f => f.elim, ?_, hr.lt⟩
    rintro j ⟨ad, e, rfl⟩
    obtain rfl := Option.some.inj e
    exact Nat.le_refl _
  obtain ⟨wa, hwa⟩ : ∃ wa, w.alloc (.cells (List.replicate n (Value.int .i64 0)).toArray 3) = wa := ⟨_, rfl⟩
  rw [hwa] at hmk h0
  have H0 := Lib.hid h0
  have HR0 := Lib.hid hr0
  have HC : Hid (∀ wx, Only (· = b) w wx → wx.cell? ⟨d, 0, none⟩ = some (.pointer (some ⟨b, 0, none⟩))) := Lib.hid fun wx ho => ho.cell hc hbd
  have HTR : Hid (∀ wx a', Only (· = b) w wx → Rd wx b s a' false → a' ≤ 8 * s.size → Calls Try.prog 92 #[.pointer (some ⟨T, 0, none⟩), .pointer (some ⟨b, 0, none⟩)] wx (ReadPost wx b s (rdp l (bitsOf s.data.toList) a'))) := Lib.hid fun wx a' ho hr' ha' => tread lo T b s l a' wx (hT.keep ho fun j h1 _ e => by omega) hr' hbl hl (by omega) hs ha'
  have HTM : Hid (∀ wx a' y, Only (· = b) w wx → Rd wx b s a' false → a' ≤ 8 * s.size → 16 ≤ y → y ≤ 18 → Calls Try.prog 126 #[.pointer (some ⟨d, 0, none⟩), .int .i64 (y : Nat)] wx (ValPost wx b s (mAbove (bitsOf s.data.toList) a' (tv y) (tw y)))) := Lib.hid fun wx a' y ho hr' ha' h1 h2 => times b d s a' y wx (ho.cell hc hbd) hbd hr' hs ha' h1 h2
  obtain ⟨G, hG⟩ : ∃ G, w.heap.size = G := ⟨_, rfl⟩
  rw [hG] at hmk
  have HG := Lib.hid hG
  rw [hG] at H0
  clear h0 hoa hwa hr hr0 hT hc hl hG
  go_enter Try.func97, Try.ntmps97
  go_wp2_with fail
  go_loopg [8, 9, 10, 11, 12] n (fun gk v u1 u2 u3 u4 wx => ∃ (a : Nat) (A : Option Addr) (z c : Nat) (o : List Nat), v = .slice A z c ∧ z ≤ n ∧ n ≤ z + gk ∧ a ≤ 8 * s.size ∧ Hid (RAt w b s a A z c o wx) ∧ Hid (mRow (bitsOf s.data.toList) l n gk a o = r))
  case atStart => exact ⟨a, _, 0, n, [], rfl, by omega, by omega, ha, H0, HR0⟩
  case round =>
    clear H0 HR0 hmk ha
    obtain ⟨a, A, z, c, o, rfl, hz, hgk, ha, HRA, HR0⟩ := hrel
    have hc0 := HC.out wr HRA.out.only
    have hozl := HRA.out.len
    by_cases hlt : z < n
    · obtain ⟨f, rfl⟩ : ∃ f, gk = f + 1 := ⟨gk - 1, by omega⟩
      have hm := HR0.out
      rw [mRow_step, hozl, if_neg (by omega), bits_len] at hm
      have HRD := Lib.hid (HTR.out wr a HRA.out.only HRA.out.rd ha)
      have hmv := rdp_moves l (bitsOf s.data.toList) a
      have hsy := rdp_symbol19 l (bitsOf s.data.toList) a h19
      rw [bits_len] at hmv
      obtain ⟨⟨y, a2, x⟩, hq⟩ : ∃ q, rdp l (bitsOf s.data.toList) a = q := ⟨_, rfl⟩
      rw [hq] at HRD hm hmv hsy
      simp only at hm hmv hsy
      clear hq HR0
      have HNX : Hid (∀ w2, Only (· = b) wr w2 → Rd w2 b s a2 false → RAt w b s a2 A z c o w2) := Lib.hid fun w2 ho hr2 => HRA.out.read ho hr2
      have HOX : Hid (∀ w2, Only (· = b) wr w2 → Only (· = b) w w2) := Lib.hid fun w2 ho => HRA.out.only.trans ho
      by_cases hx : x = 0
      · subst hx
        rw [if_neg (by simp)] at hm
        obtain ⟨m1, m2⟩ := hmv rfl
        clear hmv
        by_cases hy : y < 16
        · rw [if_pos hy] at hm
          have hy2 : (y : Int) ≤ 15 := by omega
          have HM := Lib.hid hm
          clear hm
          go_wp2_with fail
          refine HRD.out.mono ?_
          rintro e w2 ⟨rfl, hr2, ho2⟩
          have HA2 := Lib.hid (HNX.out w2 ho2 (hr2 rfl))
          have HAW : Hid (RAt w b s a2 A z c o (w2.alloc (.cells #[.int .i64 (y : Nat)] 3))) := Lib.hid (HA2.out.new ((Only.refl _ w2).alloc _))
          have HSR := Lib.hid (Src.oneInt Try.underlying26 w2 .i64 y 1 3)
          obtain ⟨wy, hwy⟩ : ∃ wy, w2.alloc (.cells #[.int .i64 (y : Nat)] 3) = wy := ⟨_, rfl⟩
          rw [hwy] at HAW HSR
          clear hr2 ho2 HRD HNX HOX hc0
          go_upto_region 7 with fail
          go_wp2_with (at_builtin
                       refine wpList_append_row rfl (.tmp 33) (.tmp 35) 26 26 3 rfl Try.underlying26 info3 A z c 1 (ints o) (ints [y]) (.slice (some ⟨w2.heap.size, 0, none⟩) 1 1) (by rfl) (by rfl) HAW.out.row rfl HSR.out (by omega) (by omega) ?_
                       intro A9 c9 w9 hrow9 honly9 hlies9
                       have H9 := Lib.hid (HAW.out.more hrow9 rfl honly9 hlies9)
                       clear hrow9 honly9 hlies9)
          go_roundg f
          case measure => omega
          case rel => exact ⟨a2, A9, z + 1, c9, o ++ [y], by first | rfl | go_num, by omega, by omega, m2, H9, HM⟩
        · rw [if_neg hy] at hm
          have hy2 : ¬ (y : Int) ≤ 15 := by omega
          have hTM := Lib.hid (fun wx ho hr' => HTM.out wx a2 y ho hr' m2 (by omega) (by omega))
          by_cases hy16 : y = 16
          · by_cases hz0 : z = 0
            · rw [if_pos ⟨hy16, hz0⟩] at hm
              subst hy16
              subst hz0
              have HM := Lib.hid hm
              clear hm hTM
              go_wp2_with fail
              refine HRD.out.mono ?_
              rintro e w2 ⟨rfl, hr2, ho2⟩
              have HO := Lib.hid (HOX.out w2 ho2)
              clear hr2 ho2 HRD HNX HOX hc0
              go_wp2
              go_ret2
              exact ⟨HO.out, by rw [← HM.out]; rfl⟩
            · rw [if_neg (fun h => hz0 h.2)] at hm
              have hzz : ¬ (z : Int) = 0 := by omega
              have hzb : ((z : Int) == 0) = false := by simp; omega
              have hzd : decide ((z : Int) = 0) = false := by simp; omega
              rw [if_pos hy16] at hm
              subst hy16
              obtain ⟨t1, t2, t3⟩ := tw_tv 16
              have hnm := nm_lt (bitsOf s.data.toList) a2 (tw 16)
              have hp : 2 ^ tw 16 ≤ 2 ^ 7 := Nat.pow_le_pow_right (by decide) t3
              unfold mAbove at hTM
              rw [bits_len] at hTM
              by_cases hend : 8 * s.size < a2 + tw 16
              · rw [if_pos hend] at hm hTM
                have HM := Lib.hid hm
                clear hm hend hnm hp t1 t2 t3
                go_wp2_with fail
                refine HRD.out.mono ?_
                rintro e w2 ⟨rfl, hr2, ho2⟩
                have HO := Lib.hid (HOX.out w2 ho2)
                have HR2 := Lib.hid (hr2 rfl)
                clear hr2 ho2 HRD HNX HOX hc0
                go_wp2_with fail
                refine (hTM.out w2 HO.out HR2.out).mono ?_
                rintro e w3 ⟨rfl, _, ho3⟩
                have HO3 := Lib.hid (HO.out.trans ho3)
                clear ho3 hTM
                go_wp2
                go_ret2
                exact ⟨HO3.out, by rw [← HM.out]; rfl⟩
              · rw [if_neg hend] at hm hTM
                obtain ⟨K, hK⟩ : ∃ K, tv 16 + nm (bitsOf s.data.toList) a2 (tw 16) = K := ⟨_, rfl⟩
                rw [hK] at hm hTM
                have hK1 : 1 ≤ K := by omega
                have hK2 : K ≤ 300 := by omega
                have ha3 : a2 + tw 16 ≤ 8 * s.size := by omega
                obtain ⟨a3, ha3e⟩ : ∃ a3, a2 + tw 16 = a3 := ⟨_, rfl⟩
                rw [ha3e] at hm hTM ha3
                clear hnm hp t1 t2 t3 hK hend ha3e
                by_cases hov : n < z + K
                · rw [if_pos hov] at hm
                  have HM := Lib.hid hm
                  have hov2 : (n : Int) - (z : Int) < (K : Int) := by omega
                  clear hm
                  go_wp2_with fail
                  refine HRD.out.mono ?_
                  rintro e w2 ⟨rfl, hr2, ho2⟩
                  have HO := Lib.hid (HOX.out w2 ho2)
                  have HR2 := Lib.hid (hr2 rfl)
                  clear hr2 ho2 HRD HNX HOX hc0
                  go_wp2_with fail
                  refine (hTM.out w2 HO.out HR2.out).mono ?_
                  rintro e w3 ⟨rfl, _, ho3⟩
                  have HO3 := Lib.hid (HO.out.trans ho3)
                  clear ho3 hTM
                  go_wp2
                  go_ret2
                  exact ⟨HO3.out, by rw [← HM.out]; rfl⟩
                · rw [if_neg hov] at hm
                  have hov2 : ¬ (n : Int) - (z : Int) < (K : Int) := by omega
                  obtain ⟨L, hL⟩ : ∃ L, o.getD (z - 1) 0 = L := ⟨_, rfl⟩
                  rw [hL] at hm
                  have HM := Lib.hid hm
                  have HRP : Hid (∀ wx : World, Calls Try.prog 107 #[.slice (some ⟨wx.heap.size, 0, none⟩) 1 1, .int .i64 K] (wx.alloc (.cells #[.int .i64 (L : Nat)] 3)) (RepPost (wx.alloc (.cells #[.int .i64 (L : Nat)] 3)) L K)) := Lib.hid fun wx => repeated wx.heap.size L K _ ((Is.new wx 3 [.int .i64 (L : Nat)]).cell 0 rfl) hK1 hK2
                  clear hm
                  go_wp2_with fail
                  refine HRD.out.mono ?_
                  rintro e w2 ⟨rfl, hr2, ho2⟩
                  have HO := Lib.hid (HOX.out w2 ho2)
                  have HR2 := Lib.hid (hr2 rfl)
                  have HA2 := Lib.hid (HNX.out w2 ho2 (hr2 rfl))
                  clear hr2 ho2 HRD HNX HOX hc0
                  go_wp2_with fail
                  refine (hTM.out w2 HO.out HR2.out).mono ?_
                  rintro e w3 ⟨rfl, hr3, ho3⟩
                  have HA3 := Lib.hid (HA2.out.read ho3 (hr3 rfl))
                  clear hr3 ho3 hTM HA2 HR2
                  obtain ⟨g, eA, cl, _⟩ := HA3.out.row.cell (ints_at o (z - 1) (by omega))
                  subst eA
                  have hln : ln o (z - 1) = L := hL
                  rw [hln] at cl
                  have ez : (z : Int) - 1 = ((z - 1 : Nat) : Int) := by omega
                  have ez2 : z - 1 < z := by omega
                  obtain ⟨zi, hzi⟩ : ∃ zi, z - 1 = zi := ⟨_, rfl⟩
                  rw [hzi] at cl ez ez2
                  clear hln hL hzi
                  go_wp2_with fail
                  refine (HRP.out w3).mono ?_
                  rintro e w4 ⟨g4, rfl, m4⟩
                  have HA4 := Lib.hid (HA3.out.new (((Only.refl _ w3).alloc _).trans m4.2.1))
                  have HSR := Lib.hid (See.src (c := K) Try.underlying26 m4.see (by rw [ints_length, List.length_replicate]) (ints_one _))
                  have HLN : Hid ((ints (List.replicate K L)).length = K) := Lib.hid (by rw [ints_length, List.length_replicate])
                  clear m4 HRP HA3
                  go_wp2_with (at_builtin
                               refine wpList_append_row rfl (.tmp 67) (.tmp 71) 26 26 3 rfl Try.underlying26 info3 (some ⟨g, 0, none⟩) z c K (ints o) (ints (List.replicate K L)) (.slice (some ⟨g4, 0, none⟩) K K) (by rfl) (by rfl) HA4.out.row HLN.out HSR.out (by omega) (by omega) ?_
                               intro A9 c9 w9 hrow9 honly9 hlies9
                               have H9 := Lib.hid (HA4.out.more hrow9 (by rw [List.length_replicate]) honly9 hlies9)
                               clear hrow9 honly9 hlies9)
                  go_roundg f
                  case measure => omega
                  case rel => exact ⟨a3, A9, z + K, c9, _, by first | rfl | go_num, by omega, by omega, ha3, H9, HM⟩
          · rw [if_neg (fun h => hy16 h.1), if_neg hy16] at hm
            have hyi : ¬ (y : Int) = 16 := by omega
            have hyb : ((y : Int) == 16) = false := by simp; omega
            have hyd : decide ((y : Int) = 16) = false := by simp; omega
            obtain ⟨t1, t2, t3⟩ := tw_tv y
            have hnm := nm_lt (bitsOf s.data.toList) a2 (tw y)
            have hp : 2 ^ tw y ≤ 2 ^ 7 := Nat.pow_le_pow_right (by decide) t3
            unfold mAbove at hTM
            rw [bits_len] at hTM
            by_cases hend : 8 * s.size < a2 + tw y
            · rw [if_pos hend] at hm hTM
              have HM := Lib.hid hm
              clear hm hend hnm hp t1 t2 t3
              go_wp2_with fail
              refine HRD.out.mono ?_
              rintro e w2 ⟨rfl, hr2, ho2⟩
              have HO := Lib.hid (HOX.out w2 ho2)
              have HR2 := Lib.hid (hr2 rfl)
              clear hr2 ho2 HRD HNX HOX hc0
              go_wp2_with fail
              refine (hTM.out w2 HO.out HR2.out).mono ?_
              rintro e w3 ⟨rfl, _, ho3⟩
              have HO3 := Lib.hid (HO.out.trans ho3)
              clear ho3 hTM
              go_wp2
              go_ret2
              exact ⟨HO3.out, by rw [← HM.out]; rfl⟩
            · rw [if_neg hend] at hm hTM
              obtain ⟨K, hK⟩ : ∃ K, tv y + nm (bitsOf s.data.toList) a2 (tw y) = K := ⟨_, rfl⟩
              rw [hK] at hm hTM
              have hK1 : 1 ≤ K := by omega
              have hK2 : K ≤ 300 := by omega
              have ha3 : a2 + tw y ≤ 8 * s.size := by omega
              obtain ⟨a3, ha3e⟩ : ∃ a3, a2 + tw y = a3 := ⟨_, rfl⟩
              rw [ha3e] at hm hTM ha3
              clear hnm hp t1 t2 t3 hK hend ha3e
              by_cases hov : n < z + K
              · rw [if_pos hov] at hm
                have HM := Lib.hid hm
                have hov2 : (n : Int) - (z : Int) < (K : Int) := by omega
                clear hm
                go_wp2_with fail
                refine HRD.out.mono ?_
                rintro e w2 ⟨rfl, hr2, ho2⟩
                have HO := Lib.hid (HOX.out w2 ho2)
                have HR2 := Lib.hid (hr2 rfl)
                clear hr2 ho2 HRD HNX HOX hc0
                go_wp2_with fail
                refine (hTM.out w2 HO.out HR2.out).mono ?_
                rintro e w3 ⟨rfl, _, ho3⟩
                have HO3 := Lib.hid (HO.out.trans ho3)
                clear ho3 hTM
                go_wp2
                go_ret2
                exact ⟨HO3.out, by rw [← HM.out]; rfl⟩
              · rw [if_neg hov] at hm
                have hov2 : ¬ (n : Int) - (z : Int) < (K : Int) := by omega
                skip
                have HM := Lib.hid hm
                have HRP : Hid (∀ wx : World, Calls Try.prog 107 #[.slice (some ⟨wx.heap.size, 0, none⟩) 1 1, .int .i64 K] (wx.alloc (.cells #[.int .i64 0] 3)) (RepPost (wx.alloc (.cells #[.int .i64 0] 3)) 0 K)) := Lib.hid fun wx => repeated wx.heap.size 0 K _ ((Is.new wx 3 [.int .i64 0]).cell 0 rfl) hK1 hK2
                clear hm
                go_wp2_with fail
                refine HRD.out.mono ?_
                rintro e w2 ⟨rfl, hr2, ho2⟩
                have HO := Lib.hid (HOX.out w2 ho2)
                have HR2 := Lib.hid (hr2 rfl)
                have HA2 := Lib.hid (HNX.out w2 ho2 (hr2 rfl))
                clear hr2 ho2 HRD HNX HOX hc0
                go_wp2_with fail
                refine (hTM.out w2 HO.out HR2.out).mono ?_
                rintro e w3 ⟨rfl, hr3, ho3⟩
                have HA3 := Lib.hid (HA2.out.read ho3 (hr3 rfl))
                clear hr3 ho3 hTM HA2 HR2
                go_wp2_with fail
                refine (HRP.out w3).mono ?_
                rintro e w4 ⟨g4, rfl, m4⟩
                have HA4 := Lib.hid (HA3.out.new (((Only.refl _ w3).alloc _).trans m4.2.1))
                have HSR := Lib.hid (See.src (c := K) Try.underlying26 m4.see (by rw [ints_length, List.length_replicate]) (ints_one _))
                have HLN : Hid ((ints (List.replicate K 0)).length = K) := Lib.hid (by rw [ints_length, List.length_replicate])
                clear m4 HRP HA3
                go_wp2_with (at_builtin
                             refine wpList_append_row rfl (.tmp 67) (.tmp 71) 26 26 3 rfl Try.underlying26 info3 A z c K (ints o) (ints (List.replicate K 0)) (.slice (some ⟨g4, 0, none⟩) K K) (by rfl) (by rfl) HA4.out.row HLN.out HSR.out (by omega) (by omega) ?_
                             intro A9 c9 w9 hrow9 honly9 hlies9
                             have H9 := Lib.hid (HA4.out.more hrow9 (by rw [List.length_replicate]) honly9 hlies9)
                             clear hrow9 honly9 hlies9)
                go_roundg f
                case measure => omega
                case rel => exact ⟨a3, A9, z + K, c9, _, by first | rfl | go_num, by omega, by omega, ha3, H9, HM⟩
      · rw [if_pos hx] at hm
        have hx2 : ¬ (x : Int) = 0 := by omega
        have HM := Lib.hid hm
        clear hm hmv
        go_wp2_with fail
        refine HRD.out.mono ?_
        rintro e w2 ⟨rfl, hr2, ho2⟩
        have HO := Lib.hid (HOX.out w2 ho2)
        clear hr2 ho2 HRD HNX HOX hc0
        go_wp2
        go_ret2
        exact ⟨HO.out, by rw [← HM.out, if_pos hx]; rfl⟩
    · obtain rfl : z = n := by omega
      have hm := HR0.out
      rw [mRow_full _ _ _ _ _ _ (by rw [hozl]; exact Nat.le_refl _)] at hm
      have HM := Lib.hid hm
      clear hm HR0
      go_wp2
      go_ret2
      refine ⟨HRA.out.only, ?_⟩
      rw [← HM.out, if_neg (by simp)]
      exact ⟨A, c, rfl, HRA.out⟩
end Go.Proofs.Ytoclbodmibagpaa

/- Layer 8, the program: the codes that a block of kind 2 brings along. -/
namespace Go.Proofs.Ytoclbodmibagpaa
open Go.RowKit

theorem mRow_low (B : List UInt8) (l : List Nat) (n : Nat) : ∀ (f a : Nat) (o : List Nat), Low o → Low (mRow B l n f a o).2.2
  | 0, a, o, h => h
  | f + 1, a, o, h => by
    have happ : ∀ r : List Nat, Low r → Low (o ++ r) := fun r hr x hx => (List.mem_append.1 hx).elim (h x) (hr x)
    rw [mRow_step]
    split
    · exact h
    · split
      · exact h
      · split
        · rename_i h3
          refine mRow_low B l n f _ _ (happ _ ?_)
          intro x hx
          obtain rfl : x = _ := by simpa using hx
          omega
        · split
          · exact h
          · split
            · exact h
            · split
              · exact h
              · refine mRow_low B l n f _ _ (happ _ ?_)
                intro x hx
                have := List.eq_of_mem_replicate hx
                subst this
                split
                · exact ln_le o _ h
                · omega
theorem mRow_empty (B : List UInt8) (l : List Nat) (n a : Nat) (hn : 1 ≤ n) (h0 : st l 16 = 0) : (mRow B l n n a []).1 = 10 := by
  obtain ⟨k, rfl⟩ : ∃ k, n = k + 1 := ⟨n - 1, by omega⟩
  have e : rdp l B a = (0, a, 10) := by unfold rdp; rw [lg_zero l h0]; rfl
  rw [mRow_step, if_neg (by simp), e]
  rfl
theorem kd_empty (l : List Nat) (h : (kd l).1 = 2) : st l 16 = 0 := by
  unfold kd at h
  split at h
  · assumption
  · split at h
    · cases h
    · split at h <;> cases h
theorem mOwn2_eq (B : List UInt8) (n0 n1 : Nat) (l : List Nat) (a : Nat) (hn : 1 ≤ n0) : mOwn2 B n0 n1 l a =
    if (kd l).2 ≠ 0 then (10, a, [], [])
    else if (mRow B l (n0 + n1) (n0 + n1) a []).1 ≠ 0 then ((mRow B l (n0 + n1) (n0 + n1) a []).1, a, [], [])
    else if ln (mRow B l (n0 + n1) (n0 + n1) a []).2.2 256 = 0 then (2, a, [], [])
    else if (kd ((mRow B l (n0 + n1) (n0 + n1) a []).2.2.take n0)).2 ≠ 0 ∨ (kd ((mRow B l (n0 + n1) (n0 + n1) a []).2.2.drop n0)).2 ≠ 0 then (10, a, [], [])
    else (0, (mRow B l (n0 + n1) (n0 + n1) a []).2.1, (mRow B l (n0 + n1) (n0 + n1) a []).2.2.take n0, (mRow B l (n0 + n1) (n0 + n1) a []).2.2.drop n0) := by
  unfold mOwn2
  by_cases h : (kd l).2 ≠ 0
  · rw [if_pos (.inl h), if_pos h]
  · rw [if_neg h]
    by_cases h2 : (kd l).1 = 2
    · have := mRow_empty B l (n0 + n1) a (by omega) (kd_empty l h2)
      rw [if_pos (.inr h2), if_pos (by rw [this]; decide), this]
    · rw [if_neg (by simp [h2]; omega)]

theorem three_bits (s : ByteArray) (a : Nat) (ha : a ≤ 8 * s.size) : ∃ v1 b1 f1 v2 b2 f2 v3 b3 f3, rBits s a false 5 = (v1, b1, f1) ∧ rBits s b1 f1 5 = (v2, b2, f2) ∧ rBits s b2 f2 4 = (v3, b3, f3) ∧ b1 ≤ 8 * s.size ∧ b2 ≤ 8 * s.size ∧ v1 < 4294967296 ∧ v2 < 4294967296 ∧ v3 < 4294967296 ∧ (f3 = true ↔ 8 * s.size < a + 14) ∧
    (f3 = false → v1 = nm (bitsOf s.data.toList) a 5 ∧ v2 = nm (bitsOf s.data.toList) (a + 5) 5 ∧ v3 = nm (bitsOf s.data.toList) (a + 10) 4 ∧ b3 = a + 14) := by
  obtain ⟨v1, b1, f1, v2, b2, f2, e1, e2, k1, k2, l1, l2, k3, k4⟩ := two_bits s a 5 5 ha (by decide) (by decide)
  cases f2 with
  | true =>
    have e3 : rBits s b2 true 4 = (0, b2, true) := by unfold rBits; rw [if_pos (by simp [short])]
    exact ⟨v1, b1, f1, v2, b2, true, 0, b2, true, e1, e2, e3, k1, k2, l1, l2, by decide, ⟨fun _ => by have := k3.1 rfl; omega, fun _ => rfl⟩, fun h => by cases h⟩
  | false =>
    obtain ⟨g1, g2, rfl⟩ := k4 rfl
    by_cases h2 : 8 * s.size < a + 14
    · have e3 : rBits s (a + 5 + 5) false 4 = (0, a + 5 + 5, true) := by unfold rBits; rw [if_pos (by simp [short]; omega)]
      exact ⟨v1, b1, f1, v2, _, false, 0, _, true, e1, e2, e3, k1, k2, l1, l2, by decide, ⟨fun _ => h2, fun _ => rfl⟩, fun h => by cases h⟩
    · have e3 : rBits s (a + 5 + 5) false 4 = (le s.data.toList / 2 ^ (a + 5 + 5) % 2 ^ 4, a + 5 + 5 + 4, false) := by unfold rBits; rw [if_neg (by simp [short]; omega)]; rfl
      exact ⟨v1, b1, f1, v2, _, false, _, _, false, e1, e2, e3, k1, k2, l1, l2, Nat.lt_of_lt_of_le (Nat.mod_lt _ (by decide)) (by decide), ⟨fun h => (by cases h), fun h => absurd h h2⟩, fun _ => ⟨g1, g2, nm_of s (a + 5 + 5) 4, rfl⟩⟩

def OwnPost (w : World) (b : Nat) (s : ByteArray) (r : Own3) (e : Ending) (w' : World) : Prop := Only (· = b) w w' ∧
  if r.1 ≠ 0 then ∃ p q, e = .returned (.tuple #[.agg #[.pointer p, .pointer q], .int .i64 r.1]) else ∃ T1 T2 hi, e = .returned (.tuple #[.agg #[.pointer (some ⟨T1, 0, none⟩), .pointer (some ⟨T2, 0, none⟩)], .int .i64 0]) ∧ Cods w' w.heap.size hi T1 T2 r.2.2.1 r.2.2.2 ∧ Rd w' b s r.2.1 false ∧ Lens r.2.2.1 ∧ Lens r.2.2.2

/-- The answer's own block stands; all else is as the reader has it. -/
structure OAt (w : World) (b K : Nat) (wx : World) : Prop where
  only : Only (· = b) w wx
  box : Is wx K 57 [.pointer none, .pointer none]
  lo : w.heap.size ≤ K
  bl : b < w.heap.size
theorem OAt.read {w wx wy : World} {b K : Nat} (h : OAt w b K wx) (k : Only (· = b) wx wy) : OAt w b K wy := ⟨h.only.trans k, h.box.only k (fun e => by have h1 := h.lo; have h2 := h.bl; omega), h.lo, h.bl⟩
theorem OAt.set {w wx : World} {b K : Nat} (h : OAt w b K wx) (p q : Value) : Is ((wx.setCell ⟨K, 0, none⟩ p).setCell ⟨K, 1, none⟩ q) K 57 [p, q] ∧ Only (· = b) w ((wx.setCell ⟨K, 0, none⟩ p).setCell ⟨K, 1, none⟩ q) :=
  ⟨(h.box.set 0 _).set 1 _, h.only.andThen ((Only.one wx K 0 _).trans (Only.one _ K 1 _)) fun j e => .inr (by have := h.lo; omega)⟩

theorem see_take {w : World} {B n : Nat} {A : Option Addr} {vs : List Value} (h : See w B A vs) : See w B A (vs.take n) := by
  intro i v hv
  rw [List.getElem?_take] at hv
  split at hv
  · exact h i v hv
  · cases hv
theorem see_drop {w : World} {B n g : Nat} {vs : List Value} (h : See w B (some ⟨g, 0, none⟩) vs) : See w B (some ⟨g, n, none⟩) (vs.drop n) := by
  intro i v hv
  rw [List.getElem?_drop] at hv
  obtain ⟨b, off, e, hb, hc⟩ := h (n + i) v hv
  simp only [Option.some.injEq, Addr.mk.injEq, and_true] at e
  obtain ⟨rfl, rfl⟩ := e
  exact ⟨g, n, rfl, hb, by rw [Nat.zero_add] at hc; exact hc⟩
theorem ints_took (l : List Nat) (n : Nat) : (ints l).take n = ints (l.take n) := by simp [ints, List.map_take]
theorem ints_drop (l : List Nat) (n : Nat) : (ints l).drop n = ints (l.drop n) := by simp [ints, List.map_drop]

set_option maxRecDepth 100000 in
set_option maxHeartbeats 8000000 in
theorem ownCodes (b d : Nat) (s : ByteArray) (a : Nat) (w : World) (hc : w.cell? ⟨d, 0, none⟩ = some (.pointer (some ⟨b, 0, none⟩))) (hbd : d ≠ b) (hr : Rd w b s a false) (hs : s.size ≤ 1073741824) (ha : a ≤ 8 * s.size) :
    Calls Try.prog 65 #[.pointer (some ⟨d, 0, none⟩)] w (OwnPost w b s (mOwn (bitsOf s.data.toList) a)) := by
  obtain ⟨wa, hwa⟩ : ∃ wa, w.alloc (.cells #[.pointer none, .pointer none] 57) = wa := ⟨_, rfl⟩
  have hoa : Only (fun _ => False) w wa := by rw [← hwa]; exact (Only.refl _ w).alloc _
  have hia : OAt w b w.heap.size wa := ⟨hoa.mono fun _ f => f.elim, by rw [← hwa]; exact Is.new w 57 _, Nat.le_refl _, hr.lt⟩
  obtain ⟨K, hK⟩ : ∃ K, w.heap.size = K := ⟨_, rfl⟩
  rw [hK] at hia
  have hra := hr.only hoa fun f => f
  obtain ⟨v1, b1, f1, v2, b2, f2, v3, b3, f3, e1, e2, e3, k1, k2, l1, l2, l3, k3, k4⟩ := three_bits s a ha
  have H1 : Hid (∀ w2, Rd w2 b s a false → Calls Try.prog 60 #[.pointer (some ⟨b, 0, none⟩), .int .i64 5] w2 (AtPost b s b1 f1 w2 (.int .u32 v1))) := Lib.hid fun w2 h2 => by
    have := rdBits b s a false 5 w2 h2 hs ha
    rw [e1] at this
    exact this
  have H2 : Hid (∀ w2, Rd w2 b s b1 f1 → Calls Try.prog 60 #[.pointer (some ⟨b, 0, none⟩), .int .i64 5] w2 (AtPost b s b2 f2 w2 (.int .u32 v2))) := Lib.hid fun w2 h2 => by
    have := rdBits b s b1 f1 5 w2 h2 hs k1
    rw [e2] at this
    exact this
  have H3 : Hid (∀ w2, Rd w2 b s b2 f2 → Calls Try.prog 60 #[.pointer (some ⟨b, 0, none⟩), .int .i64 4] w2 (AtPost b s b3 f3 w2 (.int .u32 v3))) := Lib.hid fun w2 h2 => by
    have := rdBits b s b2 f2 4 w2 h2 hs k2
    rw [e3] at this
    exact this
  have HC : Hid (∀ wx, Only (· = b) w wx → wx.cell? ⟨d, 0, none⟩ = some (.pointer (some ⟨b, 0, none⟩))) := Lib.hid fun wx ho => ho.cell hc hbd
  have hm : mOwn (bitsOf s.data.toList) a = mOwn (bitsOf s.data.toList) a := rfl
  obtain ⟨R, hR⟩ : ∃ R, mOwn (bitsOf s.data.toList) a = R := ⟨_, rfl⟩
  rw [hR]
  unfold mOwn at hR
  rw [bits_len] at hR
  have ca := HC.out wa hia.only
  have HIA := Lib.hid hia
  have HRA := Lib.hid hra
  have K3 := Lib.hid k3
  have K4 := Lib.hid k4
  have HR := Lib.hid hR
  have q1 : (v1 : Int) < 4294967296 := by omega
  have q2 : (v2 : Int) < 4294967296 := by omega
  have q3 : (v3 : Int) < 4294967296 := by omega
  clear hm hR k3 k4 e1 e2 e3 hra hia hoa hc hr l1 l2 l3
  go_enter Try.func65, Try.ntmps65
  go_wp2_with fail
  refine (H1.out wa HRA.out).mono ?_
  rintro e w1 ⟨rfl, hr1, ho1⟩
  have HI1 := Lib.hid (HIA.out.read ho1)
  have HR1 := Lib.hid hr1
  have c1 := HC.out w1 HI1.out.only
  clear hr1 ho1 H1 HIA HRA ca
  go_wp2_with fail
  refine (H2.out w1 HR1.out).mono ?_
  rintro e w2 ⟨rfl, hr2, ho2⟩
  have HI2 := Lib.hid (HI1.out.read ho2)
  have HR2 := Lib.hid hr2
  have c2 := HC.out w2 HI2.out.only
  clear hr2 ho2 H2 HI1 HR1 c1
  go_wp2_with fail
  refine (H3.out w2 HR2.out).mono ?_
  rintro e w3 ⟨rfl, hr3, ho3⟩
  have HI3 := Lib.hid (HI2.out.read ho3)
  have HR3 := Lib.hid hr3
  have c3 := HC.out w3 HI3.out.only
  clear hr3 ho3 H3 HI2 HR2 c2
  go_wp2_with fail
  refine (err b s b3 f3 w3 HR3.out).mono ?_
  rintro e w4 ⟨rfl, rfl⟩
  have g0 := HI3.out.box.cell 0 rfl
  have g1 := HI3.out.box.cell 1 rfl
  have z0 := HI3.out.box.frozen 0
  have z1 := HI3.out.box.frozen 1
  cases f3 with
  | true =>
    have hR := HR.out
    rw [if_pos (K3.out.1 rfl)] at hR
    have HRR := Lib.hid hR
    obtain ⟨y1, y2⟩ := HI3.out.set (.pointer none) (.pointer none)
    have Y1 := Lib.hid y1
    have Y2 := Lib.hid y2
    clear hR HR K3 K4 y1 y2 q1 q2 q3
    go_wp2
    refine bodyPost_ret (results_two rfl _ _ K 57 _ _ rfl Y1.out Try.underlying57 rfl (by kernel_rfl)) rfl ?_
    exact ⟨Y2.out, by rw [← HRR.out, if_pos (by simp)]; exact ⟨_, _, rfl⟩⟩
  | false =>
    have hin : ¬ 8 * s.size < a + 14 := fun h => by have := K3.out.2 h; cases this
    have hR := HR.out
    rw [if_neg hin] at hR
    obtain ⟨n1, n2, n3, rfl⟩ := K4.out rfl
    rw [← n1, ← n2, ← n3] at hR
    have lt1 : v1 < 32 := by rw [n1]; exact nm_lt _ _ 5
    have lt2 : v2 < 32 := by rw [n2]; exact nm_lt _ _ 5
    have lt3 : v3 < 16 := by rw [n3]; exact nm_lt _ _ 4
    clear K3 K4 HR n1 n2 n3 q1 q2 q3
    obtain ⟨N0, hN0⟩ : ∃ N0, 257 + v1 = N0 := ⟨_, rfl⟩
    obtain ⟨N1, hN1⟩ : ∃ N1, 1 + v2 = N1 := ⟨_, rfl⟩
    obtain ⟨N2, hN2⟩ : ∃ N2, 4 + v3 = N2 := ⟨_, rfl⟩
    rw [hN0, hN1, hN2] at hR
    have i0 : (257 : Int) + (v1 : Int) = (N0 : Int) := by omega
    have i1 : (1 : Int) + (v2 : Int) = (N1 : Int) := by omega
    have i2 : (4 : Int) + (v3 : Int) = (N2 : Int) := by omega
    by_cases hbig : 286 < N0 ∨ 30 < N1
    · rw [if_pos hbig] at hR
      have HRR := Lib.hid hR
      obtain ⟨y1, y2⟩ := HI3.out.set (.pointer none) (.pointer none)
      have Y1 := Lib.hid y1
      have Y2 := Lib.hid y2
      clear hR y1 y2
      by_cases hb1 : 286 < N0
      · have hb2 : (286 : Int) < (N0 : Int) := by omega
        clear hbig
        go_wp2
        refine bodyPost_ret (results_two rfl _ _ K 57 _ _ rfl Y1.out Try.underlying57 rfl (by kernel_rfl)) rfl ?_
        exact ⟨Y2.out, by rw [← HRR.out, if_pos (by simp)]; exact ⟨_, _, rfl⟩⟩
      · have hb2 : ¬ (286 : Int) < (N0 : Int) := by omega
        have hb3 : (30 : Int) < (N1 : Int) := by omega
        have hb4 : decide ((286 : Int) < (N0 : Int)) = false := by simp; omega
        clear hbig
        go_wp2
        refine bodyPost_ret (results_two rfl _ _ K 57 _ _ rfl Y1.out Try.underlying57 rfl (by kernel_rfl)) rfl ?_
        exact ⟨Y2.out, by rw [← HRR.out, if_pos (by simp)]; exact ⟨_, _, rfl⟩⟩
    · rw [if_neg hbig, mOwn2_eq _ _ _ _ _ (by omega)] at hR
      have hb1 : N0 ≤ 286 := by omega
      have hb2 : N1 ≤ 30 := by omega
      have hb3 : ¬ (286 : Int) < (N0 : Int) := by omega
      have hb4 : ¬ (30 : Int) < (N1 : Int) := by omega
      have hb5 : decide ((286 : Int) < (N0 : Int)) = false := by simp; omega
      have hb6 : decide ((30 : Int) < (N1 : Int)) = false := by simp; omega
      have hb7 : 257 ≤ N0 := by omega
      have HF := Lib.hid (firstCode b d s (a + 14) N2 w3 c3 hbd HR3.out hs (by omega) (by omega))
      unfold FirstPost at HF
      clear hbig
      go_wp2_with fail
      refine HF.out.mono ?_
      rintro e w5 ⟨ho5, hif⟩
      have HI5 := Lib.hid (HI3.out.read ho5)
      have g0 := HI5.out.box.cell 0 rfl
      have g1 := HI5.out.box.cell 1 rfl
      have z0 := HI5.out.box.frozen 0
      have z1 := HI5.out.box.frozen 1
      obtain ⟨y1, y2⟩ := HI5.out.set (.pointer none) (.pointer none)
      have Y1 := Lib.hid y1
      have Y2 := Lib.hid y2
      have HO5 := Lib.hid ho5
      clear y1 y2 HF ho5
      by_cases hend : 8 * s.size < a + 14 + 3 * N2
      · rw [if_pos hend] at hR hif
        subst hif
        have HRR := Lib.hid hR
        clear hR hend
        go_wp2
        refine bodyPost_ret (results_two rfl _ _ K 57 _ _ rfl Y1.out Try.underlying57 rfl (by kernel_rfl)) rfl ?_
        exact ⟨Y2.out, by rw [← HRR.out, if_pos (by simp)]; exact ⟨_, _, rfl⟩⟩
      · rw [if_neg hend] at hR hif
        obtain ⟨hr5, hif⟩ := hif
        have hlen := firsts_lens (bitsOf s.data.toList) (a + 14) N2
        have hlen19 := firsts_length (bitsOf s.data.toList) (a + 14) N2
        obtain ⟨l, hl⟩ : ∃ l, firsts (bitsOf s.data.toList) (a + 14) N2 = l := ⟨_, rfl⟩
        rw [hl] at hR hif hlen hlen19
        by_cases hkd : (kd l).2 ≠ 0
        · rw [if_pos hkd] at hR hif
          subst hif
          have HRR := Lib.hid hR
          clear hR hend hkd hr5 hlen hlen19 hl
          go_wp2
          refine bodyPost_ret (results_two rfl _ _ K 57 _ _ rfl Y1.out Try.underlying57 rfl (by kernel_rfl)) rfl ?_
          exact ⟨Y2.out, by rw [← HRR.out, if_pos (by simp)]; exact ⟨_, _, rfl⟩⟩
        · rw [if_neg hkd] at hR hif
          obtain ⟨T, rfl, hT⟩ := hif
          have c5 := HC.out w5 HI5.out.only
          have hb3l := HR3.out.lt
          have HP := Lib.hid (prow b d w3.heap.size T s l (a + 14 + 3 * N2) (N0 + N1) w5 c5 hbd hr5 hT hb3l hlen.low (by omega) hs (by omega) (by omega) (by omega))
          unfold RowPost at HP
          have hlow := mRow_low (bitsOf s.data.toList) l (N0 + N1) (N0 + N1) (a + 14 + 3 * N2) [] (by intro x hx; cases hx)
          obtain ⟨⟨x, a6, o⟩, hq⟩ : ∃ q, mRow (bitsOf s.data.toList) l (N0 + N1) (N0 + N1) (a + 14 + 3 * N2) [] = q := ⟨_, rfl⟩
          rw [hq] at HP hR hlow
          simp only at HP hR hlow
          have i3 : (N0 : Int) + (N1 : Int) = ((N0 + N1 : Nat) : Int) := by omega
          have i4 : wrap64 ((N0 : Int) + (N1 : Int)) = ((N0 + N1 : Nat) : Int) := by rw [i3]; exact IntWalk.wrap64_in _ (by omega)
          obtain ⟨M, hM⟩ : ∃ M, N0 + N1 = M := ⟨_, rfl⟩
          rw [hM] at HP i3 i4
          have HLOW := Lib.hid hlow
          clear hq hend hkd hr5 hlen hlen19 hl hT hlow
          go_wp2_with fail
          refine HP.out.mono ?_
          rintro e w6 ⟨ho6, hif⟩
          have HI6 := Lib.hid (HI5.out.read ho6)
          have g0 := HI6.out.box.cell 0 rfl
          have g1 := HI6.out.box.cell 1 rfl
          have z0 := HI6.out.box.frozen 0
          have z1 := HI6.out.box.frozen 1
          obtain ⟨y1, y2⟩ := HI6.out.set (.pointer none) (.pointer none)
          have Y1 := Lib.hid y1
          have Y2 := Lib.hid y2
          clear y1 y2 HP ho6 i3
          by_cases hx : x = 0
          · subst hx
            rw [if_neg (by simp)] at hR hif
            obtain ⟨A, c, rfl, hA⟩ := hif
            obtain ⟨g, eA, cl, _⟩ := hA.row.cell (ints_at o 256 (by rw [hA.len]; omega))
            subst eA
            obtain ⟨y, hy⟩ : ∃ y, ln o 256 = y := ⟨_, rfl⟩
            rw [hy] at cl hR
            have hM1 : (256 : Int) < (M : Int) := by omega
            have hM2 : 256 < M := by omega
            by_cases hy0 : y = 0
            · subst hy0
              rw [if_pos rfl] at hR
              have HRR := Lib.hid hR
              clear hR hA hy
              go_wp2
              refine bodyPost_ret (results_two rfl _ _ K 57 _ _ rfl Y1.out Try.underlying57 rfl (by kernel_rfl)) rfl ?_
              exact ⟨Y2.out, by rw [← HRR.out, if_pos (by simp)]; exact ⟨_, _, rfl⟩⟩
            · rw [if_neg hy0] at hR
              have hyi : ¬ (y : Int) = 0 := by omega
              have hta : (o.take N0).length = N0 := by rw [List.length_take, hA.len]; omega
              have htb : (o.drop N0).length = M - N0 := by rw [List.length_drop, hA.len]
              have hL1 : Lens (o.take N0) := ⟨fun z hz => HLOW.out z (List.mem_of_mem_take hz), by omega⟩
              have hL2 : Lens (o.drop N0) := ⟨fun z hz => HLOW.out z (List.mem_of_mem_drop hz), by omega⟩
              have s1 : See w6.drew w6.drew.heap.size (some ⟨g, 0, none⟩) (ints (o.take N0)) := by rw [← ints_took]; exact see_take hA.row.see
              have s2 : See w6.drew w6.drew.heap.size (some ⟨g, N0, none⟩) (ints (o.drop N0)) := by rw [← ints_drop]; exact see_drop hA.row.see
              have HN := Lib.hid (newCodes (some ⟨g, 0, none⟩) (some ⟨g, N0, none⟩) N0 c (M - N0) (c - N0) (o.take N0) (o.drop N0) w6.drew s1 s2 hta htb hL1 hL2)
              unfold NewC at HN
              have hcap : M ≤ c := by
                obtain ⟨_, ⟨_, h0, _⟩ | ⟨_, _, _, _, _, h3, _⟩⟩ := hA.row
                · omega
                · exact h3
              have HRD6 := Lib.hid hA.rd
              have HRR := Lib.hid hR
              clear hR hA hy s1 s2 hta htb
              obtain ⟨Q, hQ⟩ : ∃ Q, M - N0 = Q := ⟨_, rfl⟩
              obtain ⟨Q2, hQ2⟩ : ∃ Q2, c - N0 = Q2 := ⟨_, rfl⟩
              rw [hQ, hQ2] at HN
              have hNM : N0 ≤ M := by omega
              have hcN : ¬ c = N0 := by omega
              go_wp2_with fail
              refine Steps.region (fun _ => True) [(true, 0), (true, 1), (true, 2), (true, 3), (true, 4), (true, 5), (false, 6), (true, 7), (true, 8), (false, 9), (true, 10)] (by kernel_rfl) (by kernel_rfl) rfl (by kernel_rfl) (fun _ _ d _ _ h => by cases d <;> exact h) ?_
              refine Steps.take (.slice (some ⟨g, 0, none⟩) M c) rfl trivial (fun _ _ => by kernel_rfl) ?_
              simp only [Act.put, List.setIfInBounds_toArray, List.set_cons_succ, List.set_cons_zero]
              refine Steps.take (.int .i64 N0) rfl trivial (fun _ _ => by kernel_rfl) ?_
              simp only [Act.put, List.setIfInBounds_toArray, List.set_cons_succ, List.set_cons_zero]
              refine Steps.take (.slice (some ⟨g, 0, none⟩) N0 c) rfl trivial (fun _ _ => by go_simp; try (intro hh; omega)) ?_
              simp only [Act.put, List.setIfInBounds_toArray, List.set_cons_succ, List.set_cons_zero]
              refine Steps.take (.slice (some ⟨g, 0, none⟩) M c) rfl trivial (fun _ _ => by kernel_rfl) ?_
              simp only [Act.put, List.setIfInBounds_toArray, List.set_cons_succ, List.set_cons_zero]
              refine Steps.take (.int .i64 N0) rfl trivial (fun _ _ => by kernel_rfl) ?_
              simp only [Act.put, List.setIfInBounds_toArray, List.set_cons_succ, List.set_cons_zero]
              refine Steps.take (.slice (some ⟨g, N0, none⟩) Q Q2) rfl trivial (fun _ _ => by go_simp; try omega) ?_
              simp only [Act.put, List.setIfInBounds_toArray, List.set_cons_succ, List.set_cons_zero]
              refine Steps.call 95 #[.slice (some ⟨g, 0, none⟩) N0 c, .slice (some ⟨g, N0, none⟩) Q Q2] rfl (by kernel_rfl) (HN.out.mono ?_)
              rintro e w7 ⟨ho7, hif⟩
              have hI7 := (HI6.out.read ((Only.refl (· = b) w6).drew)).read (ho7.mono fun _ f => f.elim)
              have hrd7 := HRD6.out.drew.only ho7 fun f => f
              by_cases hbad : (kd (o.take N0)).2 ≠ 0 ∨ (kd (o.drop N0)).2 ≠ 0
              · have hR := HRR.out
                rw [if_pos hbad] at hR hif
                obtain ⟨v, rfl, hv⟩ := hif
                obtain ⟨p, q, rfl⟩ : ∃ p q, v = .agg #[.pointer p, .pointer q] := hv
                refine ⟨_, rfl, trivial, ?_⟩
                have x0 := hI7.box.cell 0 rfl
                have x1 := hI7.box.cell 1 rfl
                have y0 := hI7.box.frozen 0
                have y1 := hI7.box.frozen 1
                simp only [Act.put, List.setIfInBounds_toArray, List.set_cons_succ, List.set_cons_zero]
                refine Steps.take (.agg #[.pointer p, .pointer q]) rfl trivial (fun _ _ => by kernel_rfl) ?_
                simp only [Act.put, List.setIfInBounds_toArray, List.set_cons_succ, List.set_cons_zero]
                refine Steps.take (.int .i64 10) rfl trivial (fun _ _ => by kernel_rfl) ?_
                simp only [Act.put, List.setIfInBounds_toArray, List.set_cons_succ, List.set_cons_zero]
                refine Steps.skip (w' := (w7.setCell ⟨K, 0, none⟩ (.pointer p)).setCell ⟨K, 1, none⟩ (.pointer q)) rfl (by go_simp) trivial ?_
                simp only [Act.put]
                refine Steps.take (.int .i64 10) rfl trivial (fun _ _ => by kernel_rfl) ?_
                simp only [Act.put, List.setIfInBounds_toArray, List.set_cons_succ, List.set_cons_zero]
                show wpList _ _ _ _ _ _
                have HFI : Hid (OwnPost w b s R (.returned (.tuple #[.agg #[.pointer p, .pointer q], .int .i64 10])) ((w7.setCell ⟨K, 0, none⟩ (.pointer p)).setCell ⟨K, 1, none⟩ (.pointer q))) := Lib.hid ⟨(hI7.set _ _).2, by rw [← hR, if_pos (by simp)]; exact ⟨_, _, rfl⟩⟩
                have HIX := Lib.hid (hI7.set (.pointer p) (.pointer q)).1
                clear hR hL1 hL2 hI7 hrd7 ho7
                go_wp2
                refine bodyPost_ret (results_two rfl _ _ K 57 _ _ rfl HIX.out Try.underlying57 rfl (by kernel_rfl)) rfl ?_
                exact HFI.out
              · have hR := HRR.out
                rw [if_neg hbad] at hR hif
                obtain ⟨T1, T2, hi, rfl, hcd⟩ := hif
                refine ⟨_, rfl, trivial, ?_⟩
                have x0 := hI7.box.cell 0 rfl
                have x1 := hI7.box.cell 1 rfl
                have y0 := hI7.box.frozen 0
                have y1 := hI7.box.frozen 1
                simp only [Act.put, List.setIfInBounds_toArray, List.set_cons_succ, List.set_cons_zero]
                refine Steps.take (.agg #[.pointer (some ⟨T1, 0, none⟩), .pointer (some ⟨T2, 0, none⟩)]) rfl trivial (fun _ _ => by kernel_rfl) ?_
                simp only [Act.put, List.setIfInBounds_toArray, List.set_cons_succ, List.set_cons_zero]
                refine Steps.take (.int .i64 0) rfl trivial (fun _ _ => by kernel_rfl) ?_
                simp only [Act.put, List.setIfInBounds_toArray, List.set_cons_succ, List.set_cons_zero]
                refine Steps.skip (w' := (w7.setCell ⟨K, 0, none⟩ (.pointer (some ⟨T1, 0, none⟩))).setCell ⟨K, 1, none⟩ (.pointer (some ⟨T2, 0, none⟩))) rfl (by go_simp) trivial ?_
                simp only [Act.put]
                refine Steps.take (.int .i64 0) rfl trivial (fun _ _ => by kernel_rfl) ?_
                simp only [Act.put, List.setIfInBounds_toArray, List.set_cons_succ, List.set_cons_zero]
                show wpList _ _ _ _ _ _
                have HFI : Hid (OwnPost w b s R (.returned (.tuple #[.agg #[.pointer (some ⟨T1, 0, none⟩), .pointer (some ⟨T2, 0, none⟩)], .int .i64 0])) ((w7.setCell ⟨K, 0, none⟩ (.pointer (some ⟨T1, 0, none⟩))).setCell ⟨K, 1, none⟩ (.pointer (some ⟨T2, 0, none⟩)))) := Lib.hid (by
                  have hlo6 := HI6.out.box.lt
                  have hlow := HI6.out.lo
                  have hblw := HI6.out.bl
                  have hlod : w6.drew.heap.size = w6.heap.size := rfl
                  have ow : Only (· = K) w7 ((w7.setCell ⟨K, 0, none⟩ (.pointer (some ⟨T1, 0, none⟩))).setCell ⟨K, 1, none⟩ (.pointer (some ⟨T2, 0, none⟩))) := (Only.one w7 K 0 _).trans (Only.one _ K 1 _)
                  have hc7 := hcd.keep ow fun j a b e => by omega
                  refine ⟨(hI7.set _ _).2, ?_⟩
                  rw [← hR, if_neg (by simp)]
                  refine ⟨T1, T2, hi, rfl, ⟨hc7.t1.less (by omega), hc7.t2.less (by omega), hc7.h1, hc7.h2, hc7.hh⟩, hrd7.only ow (fun e => by omega), hL1, hL2⟩)
                have HIX := Lib.hid (hI7.set (.pointer (some ⟨T1, 0, none⟩)) (.pointer (some ⟨T2, 0, none⟩))).1
                clear hR hcd hL1 hL2 hI7 hrd7 ho7
                go_wp2
                refine bodyPost_ret (results_two rfl _ _ K 57 _ _ rfl HIX.out Try.underlying57 rfl (by kernel_rfl)) rfl ?_
                exact HFI.out
          · rw [if_pos hx] at hR hif
            subst hif
            have hx2 : ¬ (x : Int) = 0 := by omega
            have HRR := Lib.hid hR
            clear hR
            go_wp2
            refine bodyPost_ret (results_two rfl _ _ K 57 _ _ rfl Y1.out Try.underlying57 rfl (by kernel_rfl)) rfl ?_
            exact ⟨Y2.out, by rw [← HRR.out, if_pos hx]; exact ⟨_, _, rfl⟩⟩
end Go.Proofs.Ytoclbodmibagpaa
