/- Layer 2: the bytes of a number, by the program. -/
import Derived.Test.YtoclbodmibagpaaBWriteb
import Derived.Laws.MakeOwn
import Derived.Laws.OwnMore
namespace Go.Proofs.Ytoclbodmibagpaa
open Go.RowKit

/-- make([]byte, k): a row of zeros. -/
theorem bmake_row {P : Program} {t e : TypeId} (ht : P.underlying t = some (.slice e)) (hi : (P.info? e).map (fun i => (i.zero, i.size, i.bytes)) = some (some (.int .u8 0), 1, 1)) (k : Nat) (hk : k ≤ 1073741824) (w : World) :
    (Instr.makeSlice t (.int .i64 k) (.int .i64 k)).run P w = .ok (.slice (some ⟨w.heap.size, 0, none⟩) k k) (w.alloc (.cells (bcells (List.replicate k 0)).toArray e)) := by
  obtain ⟨i, hi, hz, hsz, hby⟩ := info_parts hi
  have h := run_make (P := P) w t e i (.int .u8 0) ht hi hz .i64 .i64 k k (by omega) (by omega) (by rw [hby]; omega) (by omega)
  have e1 : madeCells (Value.int .u8 0).cells (k * 1) = (bcells (List.replicate k 0)).toArray := by
    apply Array.ext'
    rw [Value.cells, toList_madeCells_one]
    · simp [bcells]
    all_goals intros; simp_all
  rw [Int.toNat_natCast, hsz, e1] at h
  exact h
theorem BRow.made (e : TypeId) (w : World) (k : Nat) (hk : k ≤ 1073741824) : BRow e (w.alloc (.cells (bcells (List.replicate k 0)).toArray e)) (some ⟨w.heap.size, 0, none⟩) k k (List.replicate k 0) := by
  refine ⟨by simp, by simp [bcells], .inr ⟨w.heap.size, k, _, rfl, Nat.zero_le _, heap_alloc_new w _, Nat.le_refl _, by unfold maxLen; omega, by simp [bcells], by simp [bcells]⟩⟩

/-- The k lowest bytes of a number, the lowest first. -/
def bytesOf (v : Nat) : Nat → List UInt8
  | 0 => []
  | k + 1 => bytesOf v k ++ [UInt8.ofNat (v / 256 ^ k)]
theorem bytesOf_length (v : Nat) : ∀ k, (bytesOf v k).length = k
  | 0 => rfl
  | k + 1 => by simp [bytesOf, bytesOf_length v k]
theorem le_bytesOf (v : Nat) : ∀ k, le (bytesOf v k) = v % 256 ^ k
  | 0 => by simp [bytesOf, le, Nat.mod_one]
  | k + 1 => by
    rw [bytesOf, le_append, le_bytesOf v k, bytesOf_length, Nat.pow_succ, Nat.mod_mul]
    simp [le, UInt8.toNat_ofNat']

/-- A row whose first j bytes are written. -/
def begun (v k j : Nat) : List UInt8 := bytesOf v j ++ List.replicate (k - j) 0
theorem begun_set (v k j : Nat) (h : j < k) : (begun v k j).set j (UInt8.ofNat (v / 256 ^ j)) = begun v k (j + 1) := by
  unfold begun
  rw [List.set_append_right _ _ (by rw [bytesOf_length]; exact Nat.le_refl _), bytesOf_length, Nat.sub_self, show k - j = (k - (j + 1)) + 1 from by omega, List.replicate_succ, List.set_cons_zero, bytesOf, List.append_assoc]
  rfl

set_option maxHeartbeats 1000000 in
theorem ftext (v k : Nat) (w : World) (_hv : v ≤ 18446744073709551615) (hk : k ≤ 8) : Calls Try.prog 59 #[.int .u64 v, .int .i64 k] w fun e w' => e = .returned (.string ⟨(bytesOf v k).toArray⟩) ∧ Only (fun _ => False) w w' := by
  obtain ⟨M, hM⟩ : ∃ M, M = (bcells (List.replicate k 0)).toArray := ⟨_, rfl⟩
  have hmk : ∀ W : World, (Instr.makeSlice 40 (.int .i64 k) (.int .i64 k)).run Try.prog W = .ok (.slice (some ⟨W.heap.size, 0, none⟩) k k) (W.alloc (.cells M 5)) := by
    intro W
    rw [hM]
    exact bmake_row Try.underlying40 info5 k (by omega) W
  have hrow : BRow 5 (w.alloc (.cells M 5)) (some ⟨w.heap.size, 0, none⟩) k k (begun v k 0) := by
    rw [hM]
    exact BRow.made 5 w k (by omega)
  have hmade : BMade w (some ⟨w.heap.size, 0, none⟩) k k (begun v k 0) (w.alloc (.cells M 5)) := ⟨hrow, (Only.refl _ w).alloc _, by rintro j ⟨ad, e, rfl⟩; obtain rfl := Option.some.inj e; exact Nat.le_refl _⟩
  have HM := Lib.hid hmade
  clear hM hrow hmade
  go_enter Try.func59, Try.ntmps59
  go_wp2_with fail
  obtain ⟨g, hg⟩ : ∃ g, w.heap.size = g := ⟨_, rfl⟩
  obtain ⟨wa, hwa⟩ : ∃ wa, w.alloc (.cells M 5) = wa := ⟨_, rfl⟩
  rw [hwa, hg] at HM
  rw [hwa, hg]
  have HG := Lib.hid hg
  clear hmk hwa hg
  go_loopg [11] k (fun gk i wx => ∃ j : Nat, i = .int .i64 j ∧ j + gk ≤ k ∧ k ≤ j + gk ∧ BMade w (some ⟨g, 0, none⟩) k k (begun v k j) wx)
  case atStart => exact ⟨0, rfl, by omega, by omega, HM.out⟩
  case round =>
    obtain ⟨j, rfl, hj, hj2, hM⟩ := hrel
    clear HM
    by_cases hlt : j < k
    · obtain ⟨g', hA, cl, fl⟩ := hM.1.cell hlt
      obtain rfl : g = g' := by simpa using hA
      have HM := Lib.hid hM
      clear hM hA
      have hb : Hid ((v : Int) / 2 ^ (j * 8) % 256 = ((UInt8.ofNat (v / 256 ^ j)).toNat : Int)) := by
        show (v : Int) / 2 ^ (j * 8) % 256 = _
        rw [pow256, Nat.mul_comm 8 j, UInt8.toNat_ofNat', show ((2 : Int) ^ (j * 8)) = ((2 ^ (j * 8) : Nat) : Int) from by simp]
        omega
      go_wp2
      go_roundg (gk - 1)
      case measure => omega
      case rel =>
        rw [hb.out]
        refine ⟨j + 1, by go_num, by omega, by omega, ?_, HM.out.2.1.set (.inr (HM.out.2.2 g ⟨_, rfl, rfl⟩)) _, HM.out.2.2⟩
        rw [← begun_set v k j hlt]
        exact HM.out.1.stored j _
    · obtain rfl : k = j := by omega
      have hc := hM.1.toText Try.underlying40 Try.underlying5 Try.underlying9
      rw [show begun v k k = bytesOf v k from by simp [begun]] at hc
      have HM := Lib.hid hM
      clear hM
      go_wp2
      go_ret
      exact ⟨rfl, HM.out.2.1⟩

theorem p16 (n : Int) (v : Nat) (w : World) (hv : v ≤ 18446744073709551615) (h : IntKind.u64.wrap n = v) : Calls Try.prog 37 #[.int .i64 n] w fun e w' => e = .returned (.string ⟨(bytesOf v 2).toArray⟩) ∧ Only (fun _ => False) w w' := by
  go_enter Try.func37, Try.ntmps37
  go_wp2_with (go_at_call 59; refine (ftext v 2 _ hv (by omega)).mono ?_; rintro e w' ⟨rfl, hb⟩; have HB := Lib.hid hb; clear hb)
  go_ret
  exact ⟨rfl, HB.out⟩
end Go.Proofs.Ytoclbodmibagpaa
