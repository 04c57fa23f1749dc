/- append that leaves what was there as it was; the document's padding. -/
import Derived.Test.YtohocbfmjcfdgaaDoorPrimes
namespace Go.Proofs.YtohocbfmjcfdgaaDoor
open Go.RowKit

/-- append onto a row of the call's own: the row reads on as it did. -/
theorem run_append_keep {P : Program} {t tx ty e : TypeId} {k : IntKind} {B : Nat} {w : World} {A : Option Addr} {n c m : Nat} {l r : List Value} {x : Value} (ht : P.underlying t = some (.slice e))
    (hi : (P.info? e).map (fun i => (i.zero, i.size, i.bytes)) = some (some (.int k 0), 1, B)) (h : Row e w A n c l) (hr : r.length = m) (hs : Src P 1 tx x m r w) (hB : B ≤ 8) (hb : n + m ≤ 1099511627776) :
    ∃ A' c' w', (Builtin.append_ #[t, tx] ty #[.slice A n c, x]).run P w = .ok (.slice A' (n + m) c') w' ∧ Row e w' A' (n + m) c' (l ++ r) ∧ Only (Lies A) w w' ∧
      (A' = A ∨ A' = some ⟨w.heap.size, 0, none⟩) ∧ Row e w' A n c l := by
  obtain ⟨A', c', w', h1, h2, h3, h4⟩ := run_append_row (ty := ty) ht hi h hr hs hB hb
  refine ⟨A', c', w', h1, h2, h3, h4, ?_⟩
  by_cases hroom : n + m ≤ c
  · obtain ⟨i, hi, hz, hsz, hby⟩ := info_parts hi
    obtain ⟨hl, ⟨rfl, rfl, rfl, rfl⟩ | ⟨g, cur, mk, rfl, g2, g3, g4, g5, g6, g7⟩⟩ := h
    · exact Row.nil e w'
    · have hrun := run_append_room_src (P := P) w t tx ty e i ht hi g 0 n c x m r (by rw [hsz]; exact hs) hroom
        (by intro j hj; simp only [hsz, World.cell?, g2]; simp; omega)
        (by intro j hj; simpa [World.frozen?, g2, hsz] using g7 (n + j) (by omega))
      simp only [hsz, Nat.mul_one, Nat.zero_add] at hrun
      rw [hrun] at h1
      obtain ⟨_, rfl⟩ := Result.ok.inj h1
      obtain ⟨cur', k1, k2, k3⟩ := setCells_heap g e mk r n w cur g2 (by omega)
      refine ⟨hl, .inr ⟨g, cur', mk, rfl, k1, g3, g4, by rw [k2, g5], ?_, g7⟩⟩
      have := congrArg (List.take n) k3
      rw [List.take_take, Nat.min_eq_left (by omega), List.take_append_of_le_length (by simp; omega), List.take_take, Nat.min_self, g6] at this
      exact this
  · obtain ⟨i, hi, hz, hsz, hby⟩ := info_parts hi
    have hold : (Builtin.firstCells i.size n (.slice A n c)).run P w.drew = .ok l.toArray w.drew := by
      rw [hsz]
      have hc := fun (j : Nat) (v : Value) (hj : l[j]? = some v) => h.cell hj
      obtain ⟨hl, ⟨rfl, rfl, rfl, rfl⟩ | ⟨g, cur, mk, rfl, _⟩⟩ := h
      · exact run_firstCells_none w.drew 1 0 0 0
      · refine run_firstCells_some w.drew 1 n ⟨g, 0, none⟩ n c l (by simpa using hl) fun j v hj => ?_
        obtain ⟨g', e1, e2, _⟩ := hc j v hj
        simp only [Option.some.injEq, Addr.mk.injEq, and_true] at e1
        subst e1
        rw [Addr.add_lit, Nat.zero_add]
        exact e2
    have hcap : c ≤ maxLen := by
      obtain ⟨_, ⟨_, _, rfl, _⟩ | ⟨_, _, _, _, _, _, h4, _⟩⟩ := h
      · exact Nat.zero_le _
      · exact h4
    have hfit : (n + m) * B ≤ (n + m) * 8 := Nat.mul_le_mul_left _ hB
    have hrun := run_append_grow_src (P := P) w t tx ty e i (.int k 0) ht hi hz A n c l hold x m r (by rw [hsz]; exact hs) (by omega) (by omega) (growslice_fits (by omega) (by rw [hby]; omega))
    rw [hrun] at h1
    obtain ⟨_, rfl⟩ := Result.ok.inj h1
    exact h.only (((Only.refl (fun _ => False) w).drew).alloc _) (fun _ _ f => f)

theorem step_append_keep {P : Program} {k : IntKind} {B : Nat} {w : World} {ops : Array Oper} {o : Oper} {a : Act} {K : Act → World → Prop} {Q : Exit → Act → World → Prop} {E : Prop} (hgd : o.guard = none) (s x : Operand) (t tx e : TypeId)
    (ho : o.op = .call { callee := .builtin .append, args := #[s, x], argTypes := #[t, tx] }) (ht : P.underlying t = some (.slice e))
    (hi : (P.info? e).map (fun i => (i.zero, i.size, i.bytes)) = some (some (.int k 0), 1, B)) (A : Option Addr) (n c m : Nat) (l r : List Value) (y : Value) (hsv : a.eval s = .slice A n c) (hxv : a.eval x = y)
    (h : Row e w A n c l) (hr : r.length = m) (hs : Src P 1 tx y m r w) (hB : B ≤ 8) (hb : n + m ≤ 1099511627776)
    (hk : ∀ A' c' w', Row e w' A' (n + m) c' (l ++ r) → Only (Lies A) w w' → (A' = A ∨ A' = some ⟨w.heap.size, 0, none⟩) → Row e w' A n c l → K (a.put o.dst (.slice A' (n + m) c')) w') :
    if Region.wanted o (yielded ops a.tmps) = true then Oper.wp P o a w K Q else E := by
  have hw : Region.wanted o (yielded ops a.tmps) = true := by simp [Region.wanted, hgd]
  rw [if_pos hw]
  obtain ⟨A', c', w', hrun, h2, h3, h4, h5⟩ := run_append_keep (ty := o.type) ht hi h hr hs hB hb
  unfold Oper.wp execOp
  simp only [ho, resolve, invoke, builtin, Sem.run_bind, Sem.run_pure, Result.andThen_ok, List.map_toArray, List.map_cons, List.map_nil, hsv, hxv, hrun]
  exact hk A' c' w' h2 h3 h4 h5

/-- The document's count, from its end on. -/
def begun (N j : Nat) : List UInt8 := List.replicate (8 - j) 0 ++ (count N).drop (8 - j)
theorem begun_more (N j : Nat) (h : j < 8) : (begun N j).set (7 - j) (UInt8.ofNat (N / 256 ^ j)) = begun N (j + 1) := by
  obtain rfl | rfl | rfl | rfl | rfl | rfl | rfl | rfl : j = 0 ∨ j = 1 ∨ j = 2 ∨ j = 3 ∨ j = 4 ∨ j = 5 ∨ j = 6 ∨ j = 7 := by omega
  all_goals simp [begun, count]
theorem begun_length (N j : Nat) (h : j ≤ 8) : (begun N j).length = 8 := by
  simp only [begun, count, List.length_append, List.length_replicate, List.length_drop, List.length_cons, List.length_nil]
  omega
theorem bcells_set (l : List UInt8) (i : Nat) (x : UInt8) : (bcells l).set i (.int .u8 x.toNat) = bcells (l.set i x) := by
  simp [bcells, List.map_set]
def RPadPost (w : World) (l : List UInt8) (e : Ending) (w' : World) : Prop := ∃ B : ByteArray, e = .returned (.string B) ∧ B.data.toList = pad l ∧ Only (fun _ => False) w w'
def b128 : ByteArray := ⟨#[128]⟩
def b0 : ByteArray := ⟨#[0]⟩

set_option maxHeartbeats 1000000 in
theorem rpadded (s : ByteArray) (w : World) (hs : s.size ≤ 1000) : Calls Tryd.prog 12 #[.string s] w (RPadPost w s.data.toList) := by
  obtain ⟨r, hr⟩ : ∃ r, s.size = r := ⟨_, rfl⟩
  obtain ⟨l, hl⟩ : ∃ l, s.data.toList = l := ⟨_, rfl⟩
  have hlr : l.length = r := by rw [← hl, ← hr]; simp
  have es : (s.size : Int) = (r : Int) := by omega
  rw [hr] at hs
  rw [hl]
  obtain ⟨N, hN⟩ : ∃ N, 8 * r = N := ⟨_, rfl⟩
  have e8 : (r : Int) * 8 = (N : Int) := by omega
  have hNl : N ≤ 8000 := by omega
  obtain ⟨T, hT⟩ : ∃ T, s ++ b128 = T := ⟨_, rfl⟩
  have hTl : T.data.toList = l ++ [128] := by rw [← hT, ByteArray.data_append, Array.toList_append, hl]; rfl
  have HN := Lib.hid hN
  have HL := Lib.hid hl
  clear hN hl
  go_enter Tryd.func12, Tryd.ntmps12
  go_wp2_with fail
  go_loopg [0] (fill r) (fun gk v wx => ∃ (j : Nat) (B : ByteArray), v = .string B ∧ B.data.toList = l ++ 128 :: List.replicate j 0 ∧ j + gk ≤ fill r ∧ fill r ≤ j + gk ∧ w = wx)
  case atStart => exact ⟨0, s ++ b128, rfl, by rw [hT, hTl]; rfl, by omega, by omega, rfl⟩
  case round =>
    obtain ⟨j, B, rfl, hB, hk, hk2, rfl⟩ := hrel
    have hend := fill_ends r j (by omega)
    have hf : fill r < 64 := Nat.mod_lt _ (by decide)
    have hBs : B.size = r + 1 + j := by
      have : B.data.toList.length = r + 1 + j := by rw [hB, List.length_append, List.length_cons, List.length_replicate, hlr]; omega
      simpa using this
    obtain ⟨m, hm⟩ : ∃ m, r + 1 + j = m := ⟨_, rfl⟩
    rw [hm] at hend hBs
    obtain ⟨q, hq⟩ : ∃ q, m % 64 = q := ⟨_, rfl⟩
    have em : (B.size : Int) = (m : Int) := by omega
    have t1 : (m : Int).tmod 64 = (q : Int) := by rw [← hq, Int.tmod_eq_emod_of_nonneg (by omega)]; rfl
    have t2 : (m : Int) % 64 = (q : Int) := by omega
    rw [hq] at hend
    have hml : m ≤ 2000 := by omega
    have HB := Lib.hid hB
    have HBS := Lib.hid hBs
    clear hq hB hBs
    by_cases he : q = 56
    · subst he
      have hj : j = fill r := hend.1 rfl
      have t3 : (((56 : Nat) : Int) != 56) = false := by decide
      rw [hj] at HB
      clear hend hk hk2
      have hmk : ∀ W, (Instr.makeSlice 28 (.int .i64 8) (.int .i64 8)).run Tryd.prog W = .ok (.slice (some ⟨W.heap.size, 0, none⟩) 8 8) (W.alloc (.cells (List.replicate 8 (.int .u8 0)).toArray 5)) :=
        fun W => run_make_row Tryd.underlying28 info5 (by omega) 8 (by omega) W
      obtain ⟨Z, hZ⟩ : ∃ Z, (List.replicate 8 (Value.int .u8 0)).toArray = Z := ⟨_, rfl⟩
      rw [hZ] at hmk
      have hM : Made 5 w (some ⟨w.heap.size, 0, none⟩) 8 8 (bcells (begun N 0)) (w.alloc (.cells Z 5)) := by
        rw [← hZ]
        exact made_is (Is.new w 5 _) ((Only.refl _ w).alloc _) rfl (by unfold maxLen; omega)
      have HM := Lib.hid hM
      clear hM hZ
      go_wp2_with fail
      obtain ⟨g, hg⟩ : ∃ g, w.heap.size = g := ⟨_, rfl⟩
      obtain ⟨wa, hwa⟩ : ∃ wa, w.alloc (.cells Z 5) = wa := ⟨_, rfl⟩
      rw [hwa, hg] at HM
      rw [hwa, hg]
      clear hmk hwa hg t1 t2 t3
      go_loopg [3, 5] 8 (fun gk vn vi wx => ∃ (i M : Nat) (z : Int), vn = .int .u64 M ∧ vi = .int .i64 z ∧ z = 7 - (i : Int) ∧ M = N / 256 ^ i ∧ i + gk ≤ 8 ∧ 8 ≤ i + gk ∧ Made 5 w (some ⟨g, 0, none⟩) 8 8 (bcells (begun N i)) wx)
      case atStart => exact ⟨0, N, 7, rfl, rfl, by omega, by simp, by omega, by omega, HM.out⟩
      case round =>
        obtain ⟨i, M, z, rfl, rfl, hz, hM1, hi, hi2, hM⟩ := hrel
        clear HM
        by_cases hil : i < 8
        · obtain ⟨t, ht⟩ : ∃ t, 7 - i = t := ⟨_, rfl⟩
          obtain rfl : z = (t : Int) := by omega
          obtain ⟨x0, hx0⟩ : ∃ x0, (bcells (begun N i))[t]? = some x0 := ⟨_, List.getElem?_eq_getElem (by rw [bcells_length, begun_length N i (by omega)]; omega)⟩
          obtain ⟨g', e1, f1, f2⟩ := hM.1.cell hx0
          simp only [Option.some.injEq, Addr.mk.injEq, and_true] at e1
          subst e1
          have hmore := begun_more N i hil
          rw [ht, ← hM1] at hmore
          have hb : (M : Int) % 256 = ((UInt8.ofNat M).toNat : Int) := by simp
          obtain ⟨x, hx⟩ : ∃ x, UInt8.ofNat M = x := ⟨_, rfl⟩
          rw [hx] at hmore hb
          have hMl : M ≤ 8000 := by rw [hM1]; exact Nat.le_trans (Nat.div_le_self _ _) hNl
          have HM := Lib.hid hM
          have HZ := Lib.hid hz
          have HM1 := Lib.hid hM1
          have HMORE := Lib.hid hmore
          have htl : (t : Int) < 8 := by omega
          clear hM hz hM1 hmore hx hx0
          go_wp2_with fail
          go_roundg (gk - 1)
          case measure => omega
          case rel =>
            refine ⟨i + 1, M / 256, (t : Int) - 1, by simp, by go_num, by have := HZ.out; omega, by rw [HM1.out, Nat.div_div_eq_div_mul, Nat.pow_succ], by omega, by omega, ?_, HM.out.2.1.set (p := ⟨g, t, none⟩) (.inr (HM.out.2.2 g ⟨_, rfl, rfl⟩)) _, HM.out.2.2⟩
            rw [← HMORE.out, ← bcells_set]
            exact HM.out.1.set t _
        · obtain rfl : i = 8 := by omega
          obtain rfl : z = -1 := by omega
          have hall : begun N 8 = count N := by simp [begun]
          rw [hall] at hM
          have hcv := hM.1.text (P := Tryd.prog) Tryd.underlying28 Tryd.underlying5 Tryd.underlying9 (by omega)
          have HM := Lib.hid hM
          obtain ⟨C, hC⟩ : ∃ C : ByteArray, (⟨(count N).toArray⟩ : ByteArray) = C := ⟨_, rfl⟩
          have hCs : (C.size : Int) = 8 := by rw [← hC]; rfl
          have hCd : C.data.toList = count N := by rw [← hC]
          rw [hC] at hcv
          have HCD := Lib.hid hCd
          clear hM hM1 hC hCd
          go_wp2
          go_ret
          refine ⟨_, rfl, ?_, HM.out.2.1⟩
          rw [ByteArray.data_append, Array.toList_append, HB.out, HCD.out, pad, behind, hlr, HN.out, List.append_assoc]
    · have t3 : ((q : Int) != 56) = true := by rw [bne_iff_ne]; omega
      have hj : j ≠ fill r := fun e => he (hend.2 e)
      clear hend
      go_wp2_with fail
      go_roundg (gk - 1)
      case measure => omega
      case rel =>
        refine ⟨j + 1, _, rfl, ?_, by omega, by omega, rfl⟩
        rw [ByteArray.data_append, Array.toList_append, HB.out, List.replicate_succ', List.append_assoc]
        rfl
end Go.Proofs.YtohocbfmjcfdgaaDoor
