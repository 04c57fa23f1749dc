/- Layer 4: the program's three answers. -/
import Derived.Test.YtohocbfmjcfdgaaDoorKey
namespace Go.Proofs.YtohocbfmjcfdgaaDoor
open Go.RowKit

/-- Numbers, which append lays in a block of their own first. -/
theorem Src.news {P : Program} {tx e : TypeId} (hk : P.underlying tx = some (.slice e)) (w : World) (vs : List Value) (n c : Nat) (t : TypeId) (hn : vs.length = n) (h1 : ∀ v ∈ vs, v.oneCell' = true) :
    Src P 1 tx (.slice (some ⟨w.heap.size, 0, none⟩) n c) n vs (w.alloc (.cells vs.toArray t)) :=
  Src.ofSlice _ hk _ n c _ (by simpa using hn) (fun j u hj => by rw [Addr.add_lit, Nat.zero_add]; exact (Is.new w t vs).cell j hj) h1
theorem index8 (S : St) (k : Nat) (h : k < 8) (W : World) : (Instr.index 35 (.agg (nums S.list).toArray) (.int .i64 (k : Int))).run Tryd.prog W = .ok (.int .u32 (S.list.getD k 0 : Nat)) W := by
  obtain rfl | rfl | rfl | rfl | rfl | rfl | rfl | rfl : k = 0 ∨ k = 1 ∨ k = 2 ∨ k = 3 ∨ k = 4 ∨ k = 5 ∨ k = 6 ∨ k = 7 := by omega
  all_goals kernel_rfl
theorem told_more (l : List Nat) (k : Nat) (h : k < l.length) : told (l.take (k + 1)) = told (l.take k) ++ four (l.getD k 0) := by
  unfold told
  rw [List.take_add_one, List.flatMap_append, List.getElem?_eq_getElem h, List.getD_eq_getElem?_getD, List.getElem?_eq_getElem h]
  simp
theorem list_lt (S : St) (h : S.Ok) (k : Nat) : S.list.getD k 0 < 4294967296 := by
  rcases Nat.lt_or_ge k 8 with hk | hk
  · obtain ⟨a, b, c, d, e, f, g, i⟩ := h
    obtain rfl | rfl | rfl | rfl | rfl | rfl | rfl | rfl : k = 0 ∨ k = 1 ∨ k = 2 ∨ k = 3 ∨ k = 4 ∨ k = 5 ∨ k = 6 ∨ k = 7 := by omega
    all_goals assumption
  · rw [List.getD_eq_getElem?_getD, List.getElem?_eq_none (by exact hk)]
    decide
def fourV (x : Nat) : List Value := [.int .u8 ((x : Int) / 16777216), .int .u8 ((x : Int) / 65536 % 256), .int .u8 ((x : Int) / 256 % 256), .int .u8 ((x : Int) % 256)]
theorem four_cells (x : Nat) (h : x < 4294967296) : bcells (four x) = fourV x := by
  have e0 : ((UInt8.ofNat (x / 2 ^ 24)).toNat : Int) = (x : Int) / 16777216 := by simp; omega
  have e1 : ((UInt8.ofNat (x / 2 ^ 16)).toNat : Int) = (x : Int) / 65536 % 256 := by simp
  have e2 : ((UInt8.ofNat (x / 2 ^ 8)).toNat : Int) = (x : Int) / 256 % 256 := by simp
  have e3 : ((UInt8.ofNat x).toNat : Int) = (x : Int) % 256 := by simp
  unfold bcells four fourV
  simp only [List.map_cons, List.map_nil, e0, e1, e2, e3]
theorem fourV_one (x : Nat) : ∀ v ∈ fourV x, v.oneCell' = true := by simp [fourV, Value.oneCell']
def OfPost (w : World) (l : List UInt8) (e : Ending) (w' : World) : Prop := e = .returned (.string ⟨(sha l).toArray⟩) ∧ Only (fun _ => False) w w'

set_option maxHeartbeats 1000000 in
theorem of (s : ByteArray) (w : World) (hs : s.size ≤ 1073741824) (hT : Tab w) : Calls Tryd.prog 7 #[.string s] w (OfPost w s.data.toList) := by
  have hok := keyOf_ok s.data.toList
  have C := key s w hs hT
  unfold KeyPost at C
  obtain ⟨S, hS⟩ : ∃ S, keyOf s.data.toList = S := ⟨_, rfl⟩
  rw [hS] at C hok
  have HC := Lib.hid C
  have HS := Lib.hid hS
  clear C hT hS
  go_enter Tryd.func7, Tryd.ntmps7
  go_wp2_with fail
  refine HC.out.mono ?_
  rintro x w1 ⟨rfl, hO1⟩
  have HO1 := Lib.hid hO1
  clear hO1 HC
  go_wp2_with fail
  go_loopg [3, 8] 8 (fun gk v i wx => ∃ (k m : Nat) (A : Option Addr) (c : Nat), i = .int .i64 k ∧ v = .slice A m c ∧ m = 4 * k ∧ k + gk ≤ 8 ∧ 8 ≤ k + gk ∧ Made 5 w1 A m c (bcells (told (S.list.take k))) wx)
  case atStart => exact ⟨0, 0, none, 0, rfl, rfl, rfl, by omega, by omega, Row.nil 5 w1, Only.refl _ w1, by rintro j ⟨ad, e, _⟩; cases e⟩
  case round =>
    obtain ⟨k, m, A, c, rfl, rfl, hm, hk, hk2, hM⟩ := hrel
    have HM := Lib.hid hM
    have HMM := Lib.hid hm
    clear hM hm
    by_cases hlt : k < 8
    · have c1 := index8 S k hlt
      have hx := list_lt S hok k
      have hmore := told_more S.list k hlt
      obtain ⟨x, hxe⟩ : ∃ x, S.list.getD k 0 = x := ⟨_, rfl⟩
      rw [hxe] at c1 hx hmore
      have HMORE := Lib.hid hmore
      clear hxe hmore
      have hml : m ≤ 32 := by have := HMM.out; omega
      go_wp2_with (at_builtin
                   refine wpList_append_row rfl (.tmp 11) (.tmp 23) 28 28 5 rfl Tryd.underlying28 info5 A m c 4 _ (fourV x) (.slice (some ⟨wr.heap.size, 0, none⟩) 4 4) rfl rfl (HM.out.1.alloc _) rfl (Src.news Tryd.underlying28 wr (fourV x) 4 4 5 rfl (fourV_one x)) (by omega) (by omega) ?_
                   intro A2 c2 w2 hrow2 honly2 hlies2
                   have HM2 := Lib.hid (HM.out.append hrow2 honly2 hlies2)
                   clear hrow2 honly2 hlies2)
      go_roundg (gk - 1)
      case measure => omega
      case rel =>
        refine ⟨k + 1, m + 4, A2, c2, by go_num, rfl, by have := HMM.out; omega, by omega, by omega, ?_⟩
        rw [HMORE.out, bcells_append, four_cells x hx]
        exact HM2.out
    · obtain rfl : k = 8 := by omega
      have hall : S.list.take 8 = S.list := rfl
      rw [hall] at HM
      have hcv := HM.out.1.text (P := Tryd.prog) Tryd.underlying28 Tryd.underlying5 Tryd.underlying9 (by have := HMM.out; omega)
      go_wp2
      go_ret
      exact ⟨by rw [sha, HS.out]; rfl, HO1.out.trans HM.out.2.1⟩
end Go.Proofs.YtohocbfmjcfdgaaDoor
