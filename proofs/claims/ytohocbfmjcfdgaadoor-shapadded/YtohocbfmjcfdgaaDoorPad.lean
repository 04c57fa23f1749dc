/- Layer 4: the program's bytes behind a text. -/
import Derived.Test.YtohocbfmjcfdgaaDoorMix
import Derived.Laws.IdiomStrings
import Derived.Lib.SlBuf
namespace Go.Proofs.YtohocbfmjcfdgaaDoor
open Go.RowKit

def bcells (l : List UInt8) : List Value := l.map fun b => .int .u8 b.toNat
theorem bcells_append (a b : List UInt8) : bcells (a ++ b) = bcells a ++ bcells b := List.map_append
theorem bcells_length (a : List UInt8) : (bcells a).length = a.length := List.length_map ..

/-- []byte(s): a row of the call's own. -/
theorem run_bytes {P : Program} {src dst e : TypeId} (hs : P.underlying src = some .string) (hd : P.underlying dst = some (.slice e)) (he : P.underlying e = some (.int .u8)) (s : ByteArray) (w : World) (hb : s.size ≤ 1099511627776) :
    ∃ c w', (convert src dst (.string s)).run P w = .ok (.slice (some ⟨w.heap.size, 0, none⟩) s.size c) w' ∧ Made e w (some ⟨w.heap.size, 0, none⟩) s.size c (bcells s.data.toList) w' := by
  have hrun := run_bytes_of_string w src dst e s hs hd he
  have hcap := grownCap_ge w s.size 0 e
  have hmax := grownCap_le_maxLen w s.size 0 e (by simp only [maxLen]; omega)
  obtain ⟨c, hc⟩ : ∃ c, grownCap w s.size 0 e = c := ⟨_, rfl⟩
  rw [hc] at hrun hcap hmax
  have hsz : (bytesRow s c).size = c := by simp [bytesRow]; omega
  have htk : (bytesRow s c).toList.take s.size = bcells s.data.toList := by
    simp [bytesRow, bcells]
  refine ⟨c, _, hrun, ⟨by simp [bcells_length], .inr ⟨w.heap.size, bytesRow s c, _, rfl, heap_alloc_new w.drew _, hcap, hmax, hsz, htk, fun i hi => ?_⟩⟩, ((Only.refl _ w).drew).alloc _, ?_⟩
  · rw [hsz]
    simp
    omega
  · rintro j ⟨ad, h1, rfl⟩
    obtain rfl := Option.some.inj h1
    exact Nat.le_refl _

/-- string(b). -/
theorem Row.text {P : Program} {src dst e : TypeId} (hs : P.underlying src = some (.slice e)) (he : P.underlying e = some (.int .u8)) (hd : P.underlying dst = some .string) {w : World} {A : Option Addr} {n c : Nat} {l : List UInt8} (h : Row e w A n c (bcells l)) (hn : 0 < n) :
    (convert src dst (.slice A n c)).run P w = .ok (.string ⟨l.toArray⟩) w := by
  have hl : l.length = n := by rw [← h.1, bcells_length]
  have hc := fun (i : Nat) (v : Value) (hi : (bcells l)[i]? = some v) => h.cell hi
  obtain ⟨_, ⟨_, h0, _⟩ | ⟨g, _, _, rfl, _⟩⟩ := h
  · omega
  rw [run_convert_bytes_arg w src e hs he g 0 n c (l.map fun b => (b.toNat : Int)) (by simpa using hl) ?_ dst hd]
  · have e : strOfNums (l.map fun b => (b.toNat : Int)) = ⟨l.toArray⟩ := by simp [strOfNums, Function.comp_def]
    rw [e]
  · intro i hi
    have hi2 : i < l.length := by omega
    obtain ⟨g', e1, e2, _⟩ := hc i (.int .u8 l[i].toNat) (by simp [bcells, hi2])
    simp only [Option.some.injEq, Addr.mk.injEq, and_true] at e1
    subst e1
    rw [Nat.zero_add, e2]
    simp [hi2]

theorem info5 : (Tryd.prog.info? 5).map (fun i => (i.zero, i.size, i.bytes)) = some (some (.int .u8 0), 1, 1) := by kernel_rfl
theorem count_at (n j : Nat) (h : j < 8) : (count n)[j]? = some (UInt8.ofNat (n / 2 ^ (56 - 8 * j))) := by
  obtain rfl | rfl | rfl | rfl | rfl | rfl | rfl | rfl : j = 0 ∨ j = 1 ∨ j = 2 ∨ j = 3 ∨ j = 4 ∨ j = 5 ∨ j = 6 ∨ j = 7 := by omega
  all_goals first | rfl | (simp [count])
theorem count_more (n j : Nat) (h : j < 8) : (count n).take (j + 1) = (count n).take j ++ [UInt8.ofNat (n / 2 ^ (56 - 8 * j))] := by
  rw [List.take_add_one, count_at n j h]
  rfl
theorem fill_ends (r j : Nat) (h : j ≤ fill r) : (r + 1 + j) % 64 = 56 ↔ j = fill r := by
  unfold fill at *
  omega
def PadPost (w : World) (l : List UInt8) (n : Nat) (e : Ending) (w' : World) : Prop := e = .returned (.string ⟨(l ++ behind l.length n).toArray⟩) ∧ Only (fun _ => False) w w'

set_option maxHeartbeats 4000000 in
theorem padded (s : ByteArray) (n : Nat) (w : World) (hs : s.size < 64) (hn : n ≤ 1073741824) : Calls Tryd.prog 19 #[.string s, .int .u64 n] w (PadPost w s.data.toList n) := by
  obtain ⟨c0, w0, h0, hM0⟩ := run_bytes Tryd.underlying9 Tryd.underlying28 Tryd.underlying5 s w (by omega)
  have HM0 := Lib.hid hM0
  clear hM0
  obtain ⟨r, hr⟩ : ∃ r, s.size = r := ⟨_, rfl⟩
  obtain ⟨l, hl⟩ : ∃ l, s.data.toList = l := ⟨_, rfl⟩
  have hlr : l.length = r := by rw [← hl, ← hr]; simp
  rw [hr, hl] at HM0
  rw [hr] at h0 hs
  rw [hl]
  clear hr hl
  obtain ⟨N, hN⟩ : ∃ N, 8 * n = N := ⟨_, rfl⟩
  have e8 : (8 : Int) * (n : Int) = (N : Int) := by omega
  have hNl : N ≤ 8589934592 := by omega
  have HN := Lib.hid hN
  clear hN
  go_enter Tryd.func19, Tryd.ntmps19
  go_wp2_with (at_builtin
               refine wpList_append_row rfl (.tmp 9) (.tmp 10) 28 28 5 rfl Tryd.underlying28 info5 (some ⟨w.heap.size, 0, none⟩) r c0 1 _ [.int .u8 128] (.slice (some ⟨w0.heap.size, 0, none⟩) 1 1) rfl rfl (HM0.out.1.alloc _) rfl (Src.oneInt Tryd.underlying28 w0 .u8 128 1 5) (by omega) (by omega) ?_
               intro A1 c1 w1 hrow1 honly1 hlies1
               have HM1 := Lib.hid (HM0.out.append hrow1 honly1 hlies1)
               clear hrow1 honly1 hlies1)
  go_loopg [5] (fill r) (fun gk v wx => ∃ (j m : Nat) (A : Option Addr) (c : Nat), v = .slice A m c ∧ r + 1 + j = m ∧ j + gk ≤ fill r ∧ fill r ≤ j + gk ∧ Made 5 w A m c (bcells (l ++ 128 :: List.replicate j 0)) wx)
  case atStart =>
    refine ⟨0, r + 1, A1, c1, rfl, rfl, by omega, by omega, ?_⟩
    have e : bcells (l ++ 128 :: List.replicate 0 0) = bcells l ++ [.int .u8 128] := by simp [bcells]
    rw [e]
    exact HM1.out
  case round =>
    obtain ⟨j, m, A, c, rfl, hm, hk, hk2, hM⟩ := hrel
    clear HM1
    have HM := Lib.hid hM
    clear hM
    have hend := fill_ends r j (by omega)
    rw [hm] at hend
    have hf : fill r < 64 := Nat.mod_lt _ (by decide)
    obtain ⟨q, hq⟩ : ∃ q, m % 64 = q := ⟨_, rfl⟩
    have t1 : (m : Int).tmod 64 = (q : Int) := by rw [← hq, Int.tmod_eq_emod_of_nonneg (by omega)]; rfl
    have t2 : (m : Int) % 64 = (q : Int) := by omega
    rw [hq] at hend
    clear hq
    by_cases he : q = 56
    · subst he
      have hj : j = fill r := hend.1 rfl
      have t3 : (((56 : Nat) : Int) != 56) = false := by decide
      clear hend
      rw [hj] at HM
      clear hk hk2
      go_wp2_with fail
      clear t1 t2 t3
      go_loopg [5, 7] 8 (fun gk v sh wx => ∃ (j m' : Nat) (z : Int) (A : Option Addr) (c : Nat), v = .slice A m' c ∧ sh = .int .i64 z ∧ z = 56 - 8 * (j : Int) ∧ m + j = m' ∧ j + gk ≤ 8 ∧ 8 ≤ j + gk ∧ Made 5 w A m' c (bcells (l ++ 128 :: List.replicate (fill r) 0 ++ (count N).take j)) wx)
      case atStart => exact ⟨0, m, 56, A, c, rfl, rfl, by omega, by omega, by omega, by omega, by simpa using HM.out⟩
      case round =>
        obtain ⟨i, m', z, A, c, rfl, rfl, hz, hm', hk, hk2, hM⟩ := hrel
        clear HM
        have HM := Lib.hid hM
        clear hM
        by_cases hlt : i < 8
        · obtain ⟨t, ht⟩ : ∃ t, 56 - 8 * i = t := ⟨_, rfl⟩
          obtain rfl : z = (t : Int) := by omega
          have hmore := count_more N i hlt
          rw [ht] at hmore
          have hb : (N : Int) / 2 ^ t % 256 = ((UInt8.ofNat (N / 2 ^ t)).toNat : Int) := by
            simp
          obtain ⟨x, hx⟩ : ∃ x, UInt8.ofNat (N / 2 ^ t) = x := ⟨_, rfl⟩
          rw [hx] at hmore hb
          have HMORE := Lib.hid hmore
          clear hmore hx
          have t64 : t < 64 := by omega
          go_wp2_with (at_builtin
                       refine wpList_append_row rfl (.tmp 25) (.tmp 30) 28 28 5 rfl Tryd.underlying28 info5 A m' c 1 _ [.int .u8 x.toNat] (.slice (some ⟨wr.heap.size, 0, none⟩) 1 1) rfl rfl (HM.out.1.alloc _) rfl (Src.oneInt Tryd.underlying28 wr .u8 x.toNat 1 5) (by omega) (by omega) ?_
                       intro A2 c2 w2 hrow2 honly2 hlies2
                       have HM2 := Lib.hid (HM.out.append hrow2 honly2 hlies2)
                       clear hrow2 honly2 hlies2)
          go_roundg (gk - 1)
          case measure => omega
          case rel =>
            refine ⟨i + 1, m' + 1, _, A2, c2, rfl, rfl, by omega, by omega, by omega, by omega, ?_⟩
            rw [HMORE.out, ← List.append_assoc, bcells_append]
            exact HM2.out
        · obtain rfl : i = 8 := by omega
          obtain rfl : z = -8 := by omega
          have hall : (count N).take 8 = count N := List.take_of_length_le (by simp [count])
          rw [hall] at HM
          have hcv := HM.out.1.text (P := Tryd.prog) Tryd.underlying28 Tryd.underlying5 Tryd.underlying9 (by omega)
          go_wp2
          go_ret
          refine ⟨?_, HM.out.2.1⟩
          unfold behind
          rw [hlr, HN.out]
          rfl
    · have t3 : ((q : Int) != 56) = true := by rw [bne_iff_ne]; omega
      have hj : j ≠ fill r := fun e => he (hend.2 e)
      clear hend
      go_wp2_with (at_builtin
                   refine wpList_append_row rfl (.tmp 16) (.tmp 17) 28 28 5 rfl Tryd.underlying28 info5 A m c 1 _ [.int .u8 0] (.slice (some ⟨wr.heap.size, 0, none⟩) 1 1) rfl rfl (HM.out.1.alloc _) rfl (Src.oneInt Tryd.underlying28 wr .u8 0 1 5) (by omega) (by omega) ?_
                   intro A2 c2 w2 hrow2 honly2 hlies2
                   have HM2 := Lib.hid (HM.out.append hrow2 honly2 hlies2)
                   clear hrow2 honly2 hlies2)
      go_roundg (gk - 1)
      case measure => omega
      case rel =>
        refine ⟨j + 1, m + 1, A2, c2, rfl, by omega, by omega, by omega, ?_⟩
        have e : bcells (l ++ 128 :: List.replicate (j + 1) 0) = bcells (l ++ 128 :: List.replicate j 0) ++ [.int .u8 0] := by
          rw [List.replicate_succ', ← List.cons_append, ← List.append_assoc, bcells_append]
          rfl
        rw [e]
        exact HM2.out
end Go.Proofs.YtohocbfmjcfdgaaDoor
