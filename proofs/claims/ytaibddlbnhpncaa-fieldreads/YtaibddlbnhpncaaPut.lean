/- Layer 2, writing: the bytes of a number; and the document's Put. -/
import Derived.Test.YtaibddlbnhpncaaReads
import Derived.Laws.MakeOwn
import Derived.Laws.OwnMore
namespace Go.Proofs.Ytaibddlbnhpncaa
open Go.RowKit

theorem info5 : (Try.prog.info? 5).map (fun i => (i.zero, i.size, i.bytes)) = some (some (.int .u8 0), 1, 1) := by kernel_rfl

/-- string(..) of a row of bytes. -/
theorem Row.toText {P : Program} {src dst e : TypeId} {w : World} {A : Option Addr} {n c : Nat} {l : List UInt8} (hs : P.underlying src = some (.slice e)) (he : P.underlying e = some (.int .u8)) (hd : P.underlying dst = some .string) (h : Row e w A n c l) :
    (convert src dst (.slice A n c)).run P w = .ok (.string ⟨l.toArray⟩) w := by
  rcases h.form with ⟨rfl, rfl, rfl, rfl⟩ | ⟨g, cur, rfl, _⟩
  · rw [run_convert_bytes_nil w src e hs he 0 0 dst hd]
    rfl
  · have hc : ∀ i, i < n → w.cell? ⟨g, 0 + i, none⟩ = some (.int .u8 ((l.map fun b => (b.toNat : Int)).getD i 0)) := by
      intro i hi
      obtain ⟨g', e1, e2, _⟩ := h.cell hi
      obtain rfl : g = g' := by simpa using e1
      have hl : i < l.length := by rw [h.len]; exact hi
      rw [Nat.zero_add, e2]
      simp [hl]
    rw [run_convert_bytes_arg w src e hs he g 0 n c (l.map fun b => (b.toNat : Int)) (by simpa using h.len) hc dst hd]
    have e : strOfNums (l.map fun b => (b.toNat : Int)) = ⟨l.toArray⟩ := by simp [strOfNums, Function.comp_def]
    rw [e]

/-- make([]byte, k): a row of zeros. -/
theorem run_make_row {P : Program} {t e : TypeId} (ht : P.underlying t = some (.slice e)) (hi : (P.info? e).map (fun i => (i.zero, i.size, i.bytes)) = some (some (.int .u8 0), 1, 1)) (k : Nat) (hk : k ≤ 1073741824) (w : World) :
    (Instr.makeSlice t (.int .i64 k) (.int .i64 k)).run P w = .ok (.slice (some ⟨w.heap.size, 0, none⟩) k k) (w.alloc (.cells (bcells (List.replicate k 0)).toArray e)) := by
  obtain ⟨i, hi, hz, hsz, hby⟩ := info_parts hi
  have h := run_make (P := P) w t e i (.int .u8 0) ht hi hz .i64 .i64 k k (by omega) (by omega) (by rw [hby]; omega) (by omega)
  have e1 : madeCells (Value.int .u8 0).cells (k * 1) = (bcells (List.replicate k 0)).toArray := by
    apply Array.ext'
    rw [Value.cells, toList_madeCells_one]
    · simp [bcells]
    all_goals intros; simp_all
  rw [Int.toNat_natCast, hsz, e1] at h
  exact h
theorem Row.made (e : TypeId) (w : World) (k : Nat) (hk : k ≤ 1073741824) : Row e (w.alloc (.cells (bcells (List.replicate k 0)).toArray e)) (some ⟨w.heap.size, 0, none⟩) k k (List.replicate k 0) := by
  refine ⟨by simp, by simp [bcells], .inr ⟨w.heap.size, k, _, rfl, Nat.zero_le _, heap_alloc_new w _, Nat.le_refl _, by unfold maxLen; omega, by simp [bcells], by simp [bcells]⟩⟩

/-- The k lowest bytes of a number, the lowest first. -/
def bytesOf (v : Nat) : Nat → List UInt8
  | 0 => []
  | k + 1 => bytesOf v k ++ [UInt8.ofNat (v / 256 ^ k)]
theorem bytesOf_length (v : Nat) : ∀ k, (bytesOf v k).length = k
  | 0 => rfl
  | k + 1 => by simp [bytesOf, bytesOf_length v k]
theorem le_bytesOf (v : Nat) : ∀ k, le (bytesOf v k) = v % 256 ^ k
  | 0 => by simp [bytesOf, le, Nat.mod_one]
  | k + 1 => by
    rw [bytesOf, le_append, le_bytesOf v k, bytesOf_length, Nat.pow_succ, Nat.mod_mul]
    simp [le, UInt8.toNat_ofNat']

/-- A row of the call's own, laid since w: nothing that was there has turned. -/
def Made (w : World) (A : Option Addr) (n c : Nat) (l : List UInt8) (wx : World) : Prop := Row 5 wx A n c l ∧ Only (fun _ => False) w wx ∧ ∀ j, Lies A j → w.heap.size ≤ j

theorem Made.append {w wx wy : World} {A A' : Option Addr} {n c n' c' : Nat} {l l' : List UInt8} {o : Obj} (h : Made w A n c l wx) (hr : Row 5 wy A' n' c' l') (ho : Only (Lies A) (wx.alloc o) wy) (ha : A' = A ∨ A' = some ⟨(wx.alloc o).heap.size, 0, none⟩) : Made w A' n' c' l' wy := by
  refine ⟨hr, (h.2.1.alloc o).andThen ho fun j hj => .inr (h.2.2 j hj), fun j hj => ?_⟩
  rcases ha with e | e
  · exact h.2.2 j (e ▸ hj)
  · obtain ⟨ad, e1, e2⟩ := hj
    rw [e] at e1
    obtain rfl := Option.some.inj e1
    have h1 := h.2.1.size
    have h2 : (wx.alloc o).heap.size = j := e2
    simp at h2
    omega

set_option maxHeartbeats 1000000 in
theorem rput (v k : Nat) (w : World) (hv : v ≤ 18446744073709551615) (hk : k ≤ 8) : Calls Try.prog 15 #[.int .u64 v, .int .i64 k] w fun e w' => e = .returned (.string ⟨(bytesOf v k).toArray⟩) ∧ Below w.heap.size w w' := by
  go_enter Try.func15, Try.ntmps15
  go_wp2_with fail
  go_loopg [0, 5, 6] k (fun gk x o i wx => ∃ (j : Nat) (A : Option Addr) (c : Nat), i = .int .i64 j ∧ x = .int .u64 (v / 256 ^ j : Nat) ∧ o = .slice A j c ∧ j + gk ≤ k ∧ k ≤ j + gk ∧ Made w A j c (bytesOf v j) wx)
  case atStart => exact ⟨0, none, 0, rfl, by simp, rfl, by omega, by omega, Row.nil 5 w, Only.refl _ w, by rintro j ⟨ad, e, _⟩; cases e⟩
  case round =>
    obtain ⟨j, A, c, rfl, rfl, rfl, hj, hj2, hM⟩ := hrel
    have HM := Lib.hid hM
    have hq : v / 256 ^ j ≤ 18446744073709551615 := Nat.le_trans (Nat.div_le_self _ _) hv
    obtain ⟨q, hq1⟩ : ∃ q, v / 256 ^ j = q := ⟨_, rfl⟩
    rw [hq1] at hq ⊢
    have HQ := Lib.hid hq1
    clear hM hq1
    by_cases hlt : j < k
    · obtain ⟨cb, hby, hcb⟩ : ∃ cb : UInt8, (q : Int) % 256 = (cb.toNat : Int) ∧ cb = UInt8.ofNat q := ⟨UInt8.ofNat q, by rw [UInt8.toNat_ofNat']; omega, rfl⟩
      have Hcb := Lib.hid hcb
      clear hcb
      go_wp2_with (at_builtin
                   refine wpList_append_row rfl (.tmp 12) (.tmp 16) 44 44 5 rfl Try.underlying44 info5 A j c 1 _ [cb] (.slice (some ⟨wr.heap.size, 0, none⟩) 1 1) rfl rfl (HM.out.1.alloc _) rfl (Src.oneByte Try.underlying44 wr cb 1 5) (by omega) ?_
                   intro A2 c2 w2 hrow2 honly2 hlies2
                   have HM2 := Lib.hid (HM.out.append hrow2 honly2 hlies2)
                   clear hrow2 honly2 hlies2)
      go_roundg (gk - 1)
      case measure => omega
      case rel =>
        refine ⟨j + 1, A2, c2, by go_num, ?_, rfl, by omega, by omega, ?_⟩
        · have : v / 256 ^ (j + 1) = q / 256 := by rw [Nat.pow_succ, ← Nat.div_div_eq_div_mul, HQ.out]
          rw [this]
          go_num
        · rw [bytesOf, HQ.out, ← Hcb.out]
          exact HM2.out
    · obtain rfl : k = j := by omega
      have hc := HM.out.1.toText Try.underlying44 Try.underlying5 Try.underlying9
      go_wp2
      go_ret
      exact ⟨rfl, HM.out.2.1.below _ (Nat.le_refl _) (fun _ _ h => h)⟩

/-- A row whose first j bytes are written. -/
def begun (v k j : Nat) : List UInt8 := bytesOf v j ++ List.replicate (k - j) 0
theorem begun_set (v k j : Nat) (h : j < k) : (begun v k j).set j (UInt8.ofNat (v / 256 ^ j)) = begun v k (j + 1) := by
  unfold begun
  rw [List.set_append_right _ _ (by rw [bytesOf_length]; exact Nat.le_refl _), bytesOf_length, Nat.sub_self, show k - j = (k - (j + 1)) + 1 from by omega, List.replicate_succ, List.set_cons_zero, bytesOf, List.append_assoc]
  rfl

set_option maxHeartbeats 1000000 in
theorem text (v k : Nat) (w : World) (_hv : v ≤ 18446744073709551615) (hk : k ≤ 8) : Calls Try.prog 19 #[.int .u64 v, .int .i64 k] w fun e w' => e = .returned (.string ⟨(bytesOf v k).toArray⟩) ∧ Below w.heap.size w w' := by
  obtain ⟨M, hM⟩ : ∃ M, M = (bcells (List.replicate k 0)).toArray := ⟨_, rfl⟩
  have hmk : ∀ W : World, (Instr.makeSlice 44 (.int .i64 k) (.int .i64 k)).run Try.prog W = .ok (.slice (some ⟨W.heap.size, 0, none⟩) k k) (W.alloc (.cells M 5)) := by
    intro W
    rw [hM]
    exact run_make_row Try.underlying44 info5 k (by omega) W
  have hrow : Row 5 (w.alloc (.cells M 5)) (some ⟨w.heap.size, 0, none⟩) k k (begun v k 0) := by
    rw [hM]
    exact Row.made 5 w k (by omega)
  have hmade : Made w (some ⟨w.heap.size, 0, none⟩) k k (begun v k 0) (w.alloc (.cells M 5)) := ⟨hrow, (Only.refl _ w).alloc _, by rintro j ⟨ad, e, rfl⟩; obtain rfl := Option.some.inj e; exact Nat.le_refl _⟩
  have HM := Lib.hid hmade
  clear hM hrow hmade
  go_enter Try.func19, Try.ntmps19
  go_wp2_with fail
  obtain ⟨g, hg⟩ : ∃ g, w.heap.size = g := ⟨_, rfl⟩
  obtain ⟨wa, hwa⟩ : ∃ wa, w.alloc (.cells M 5) = wa := ⟨_, rfl⟩
  rw [hwa, hg] at HM
  rw [hwa, hg]
  have HG := Lib.hid hg
  clear hmk hwa hg
  go_loopg [11] k (fun gk i wx => ∃ j : Nat, i = .int .i64 j ∧ j + gk ≤ k ∧ k ≤ j + gk ∧ Made w (some ⟨g, 0, none⟩) k k (begun v k j) wx)
  case atStart => exact ⟨0, rfl, by omega, by omega, HM.out⟩
  case round =>
    obtain ⟨j, rfl, hj, hj2, hM⟩ := hrel
    clear HM
    by_cases hlt : j < k
    · obtain ⟨g', hA, cl, fl⟩ := hM.1.cell hlt
      obtain rfl : g = g' := by simpa using hA
      have HM := Lib.hid hM
      clear hM hA
      have hb : Hid ((v : Int) / 2 ^ (j * 8) % 256 = ((UInt8.ofNat (v / 256 ^ j)).toNat : Int)) := by
        show (v : Int) / 2 ^ (j * 8) % 256 = _
        rw [pow256, Nat.mul_comm 8 j, UInt8.toNat_ofNat', show ((2 : Int) ^ (j * 8)) = ((2 ^ (j * 8) : Nat) : Int) from by simp]
        omega
      go_wp2
      go_roundg (gk - 1)
      case measure => omega
      case rel =>
        rw [hb.out]
        refine ⟨j + 1, by go_num, by omega, by omega, ?_, HM.out.2.1.set (.inr (HM.out.2.2 g ⟨_, rfl, rfl⟩)) _, HM.out.2.2⟩
        rw [← begun_set v k j hlt]
        exact HM.out.1.stored j _
    · obtain rfl : k = j := by omega
      have hc := hM.1.toText Try.underlying44 Try.underlying5 Try.underlying9
      rw [show begun v k k = bytesOf v k from by simp [begun]] at hc
      have HM := Lib.hid hM
      clear hM
      go_wp2
      go_ret
      exact ⟨rfl, HM.out.2.1.below _ (Nat.le_refl _) (fun _ _ h => h)⟩

theorem p16 (n : Int) (v : Nat) (w : World) (hv : v ≤ 18446744073709551615) (h : IntKind.u64.wrap n = v) : Calls Try.prog 12 #[.int .i64 n] w fun e w' => e = .returned (.string ⟨(bytesOf v 2).toArray⟩) ∧ Below w.heap.size w w' := by
  go_enter Try.func12, Try.ntmps12
  go_wp2_with (go_at_call 19; refine (text v 2 _ hv (by omega)).mono ?_; rintro e w' ⟨rfl, hb⟩; have HB := Lib.hid hb; clear hb)
  go_ret
  exact ⟨rfl, HB.out⟩
theorem p32 (n : Int) (v : Nat) (w : World) (hv : v ≤ 18446744073709551615) (h : IntKind.u64.wrap n = v) : Calls Try.prog 13 #[.int .i64 n] w fun e w' => e = .returned (.string ⟨(bytesOf v 4).toArray⟩) ∧ Below w.heap.size w w' := by
  go_enter Try.func13, Try.ntmps13
  go_wp2_with (go_at_call 19; refine (text v 4 _ hv (by omega)).mono ?_; rintro e w' ⟨rfl, hb⟩; have HB := Lib.hid hb; clear hb)
  go_ret
  exact ⟨rfl, HB.out⟩
theorem p64 (v : Nat) (w : World) (hv : v ≤ 18446744073709551615) : Calls Try.prog 14 #[.int .u64 v] w fun e w' => e = .returned (.string ⟨(bytesOf v 8).toArray⟩) ∧ Below w.heap.size w w' := by
  go_enter Try.func14, Try.ntmps14
  go_wp2_with (go_at_call 19; refine (text v 8 _ hv (by omega)).mono ?_; rintro e w' ⟨rfl, hb⟩; have HB := Lib.hid hb; clear hb)
  go_ret
  exact ⟨rfl, HB.out⟩

theorem num_bytesOf (v k : Nat) : num ⟨(bytesOf v k).toArray⟩ 0 k = v % 256 ^ k := by
  unfold num
  rw [List.drop_zero, show (ByteArray.mk (bytesOf v k).toArray).data.toList = bytesOf v k from rfl, List.take_of_length_le (by rw [bytesOf_length]; exact Nat.le_refl _), le_bytesOf]

set_option maxHeartbeats 1000000 in
theorem awake (w : World) : Calls Try.prog 5 #[] w fun e w' => e = .returned (.bool true) ∧ Below w.heap.size w w' := by
  have e1 : num ⟨#[1, 2]⟩ 0 2 = 513 := by decide
  have e2 : bytesOf 513 2 = [1, 2] := by decide
  have e3 : bytesOf 18446744073709551615 4 = [255, 255, 255, 255] := by decide
  have E1 := Lib.hid e1
  have E2 := Lib.hid e2
  have E3 := Lib.hid e3
  clear e1 e2 e3
  go_enter Try.func5, Try.ntmps5
  go_wp2_with fail
  refine (u16_yes ⟨#[1, 2]⟩ 0 _ (by decide) (by decide)).mono ?_
  rw [E1.out]
  rintro e w' ⟨rfl, rfl⟩
  go_wp2_with fail
  refine (u16_no ⟨#[1, 2]⟩ 1 _ (by decide) (by unfold In64; omega) (by unfold Lacks; decide)).mono ?_
  rintro e w' ⟨rfl, rfl⟩
  go_wp2_with fail
  refine (p16 513 513 _ (by decide) (by decide)).mono ?_
  rw [E2.out]
  rintro e w1 ⟨rfl, hb1⟩
  have HB1 := Lib.hid hb1
  clear hb1
  go_wp2_with fail
  refine (p32 (-1) 18446744073709551615 _ (by decide) (by decide)).mono ?_
  rw [E3.out]
  rintro e w2 ⟨rfl, hb2⟩
  have HB2 := Lib.hid hb2
  clear hb2
  go_wp2
  go_ret
  exact ⟨rfl, HB1.out.trans (HB2.out.mono HB1.out.size)⟩
end Go.Proofs.Ytaibddlbnhpncaa
