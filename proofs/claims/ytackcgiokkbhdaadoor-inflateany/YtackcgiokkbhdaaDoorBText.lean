/- The document's answer for layer 1: bytes of bits (Text). -/
import Derived.Test.YtackcgiokkbhdaaDoorBRef
import Derived.Test.YtackcgiokkbhdaaDoorBReads
namespace Go.Proofs.YtackcgiokkbhdaaDoor
open Go.RowKit

/-- string(..) of a row of bytes. -/
theorem BRow.toText {P : Program} {src dst e : TypeId} {w : World} {A : Option Addr} {n c : Nat} {l : List UInt8} (hs : P.underlying src = some (.slice e)) (he : P.underlying e = some (.int .u8)) (hd : P.underlying dst = some .string) (h : BRow e w A n c l) :
    (convert src dst (.slice A n c)).run P w = .ok (.string ⟨l.toArray⟩) w := by
  rcases h.form with ⟨rfl, rfl, rfl, rfl⟩ | ⟨g, cur, rfl, _⟩
  · rw [run_convert_bytes_nil w src e hs he 0 0 dst hd]
    rfl
  · have hc : ∀ i, i < n → w.cell? ⟨g, 0 + i, none⟩ = some (.int .u8 ((l.map fun b => (b.toNat : Int)).getD i 0)) := by
      intro i hi
      obtain ⟨g', e1, e2, _⟩ := h.cell hi
      obtain rfl : g = g' := by simpa using e1
      have hl : i < l.length := by rw [h.len]; exact hi
      rw [Nat.zero_add, e2]
      simp [hl]
    rw [run_convert_bytes_arg w src e hs he g 0 n c (l.map fun b => (b.toNat : Int)) (by simpa using h.len) hc dst hd]
    have e : strOfNums (l.map fun b => (b.toNat : Int)) = ⟨l.toArray⟩ := by simp [strOfNums, Function.comp_def]
    rw [e]


/-- The slice 'A, n, ..' reads as the bytes l. -/
def Sees (w : World) (A : Option Addr) (n : Nat) (l : List UInt8) : Prop :=
  l.length = n ∧ ∀ i, i < n → ∃ b off, A = some ⟨b, off, none⟩ ∧ b < w.heap.size ∧ w.cell? ⟨b, off + i, none⟩ = some (.int .u8 (l[i]?.getD 0).toNat)

theorem Sees.of_row {e : TypeId} {w : World} {A : Option Addr} {n c : Nat} {l : List UInt8} (h : BRow e w A n c l) : Sees w A n l := by
  refine ⟨h.len, fun i hi => ?_⟩
  obtain ⟨g, hA, hc, _⟩ := h.cell hi
  refine ⟨g, 0, hA, h.lt g ⟨_, hA, rfl⟩, by rw [Nat.zero_add]; exact hc⟩
theorem Sees.at_ {w w' : World} {A : Option Addr} {n : Nat} {l : List UInt8} (h : Sees w A n l) (k : Only (fun _ => False) w w') {i : Nat} (hi : i < n) :
    ∃ b off, A = some ⟨b, off, none⟩ ∧ w'.cell? ⟨b, off + i, none⟩ = some (.int .u8 (l[i]?.getD 0).toNat) := by
  obtain ⟨b, off, hA, hb, hc⟩ := h.2 i hi
  exact ⟨b, off, hA, (World.cell?_of_block (k.block b hb id)).trans hc⟩

def TextPost (w : World) (n : Nat) (l : List UInt8) (e : Ending) (w' : World) : Prop :=
  ∃ t : List UInt8, e = .returned (.string ⟨t.toArray⟩) ∧ t.length = (n + 7) / 8 ∧ le t = le2 l ∧ Only (fun _ => False) w w'

set_option maxRecDepth 20000 in
set_option maxHeartbeats 2000000 in
theorem rtext (A : Option Addr) (n c : Nat) (l : List UInt8) (w : World) (h : Sees w A n l) (hb : Bits l) (hn : n ≤ 1073741824) : Calls Tryd.prog 14 #[.slice A n c] w (TextPost w n l) := by
  have b1 : (n : Int) ≤ 1073741824 := by omega
  have HS := Lib.hid h
  have HB := Lib.hid hb
  clear h hb
  go_enter Tryd.func14, Tryd.ntmps14
  go_wp2_with fail
  go_loopg [3, 4] (n + 8) (fun gk o i wx => ∃ (q : Nat) (A : Option Addr) (c : Nat) (t : List UInt8), i = .int .i64 (8 * q : Nat) ∧ o = .slice A q c ∧ 8 * q + gk ≤ n + 8 ∧ n + 8 ≤ 8 * q + gk ∧ 8 * q < n + 8 ∧ le t = le2 (l.take (8 * q)) ∧ BMade w A q c t wx)
  case atStart => exact ⟨0, none, 0, [], rfl, rfl, by omega, by omega, by omega, rfl, BRow.nil 5 w, Only.refl _ w, by rintro j ⟨ad, e, _⟩; cases e⟩
  case round =>
    obtain ⟨q, A1, c1, t, rfl, rfl, hk, hk2, hk3, ht, hM⟩ := hrel
    have HT := Lib.hid ht
    have HM := Lib.hid hM
    clear ht hM
    by_cases hlt : 8 * q < n
    · go_wp2_with fail
      go_loopg [5, 6] 8 (fun gj v i wx => ∃ (m : Nat), i = .int .i64 ((m : Int) - 1) ∧ v = .int .i64 (le2 ((l.drop (8 * q + m)).take (8 - m)) : Nat) ∧ m ≤ gj ∧ m ≤ 8 ∧ wx = wr)
      case atStart => exact ⟨8, rfl, by simp [le2], by omega, by omega, rfl⟩
      case round =>
        obtain ⟨m, rfl, rfl, hm, hm2, rfl⟩ := hrel
        by_cases hm0 : 0 < m
        · obtain ⟨p, rfl⟩ : ∃ p, m = p + 1 := ⟨m - 1, by omega⟩
          obtain ⟨y, hy⟩ : ∃ y, le2 ((l.drop (8 * q + (p + 1))).take (8 - (p + 1))) = y := ⟨_, rfl⟩
          have hy2 : y < 256 := by
            rw [← hy]
            refine Nat.lt_of_lt_of_le (le2_lt _ (bits_take (bits_drop HB.out _) _)) ?_
            exact Nat.pow_le_pow_right (n := 2) (j := 8) (by decide) (Nat.le_trans (List.length_take_le _ _) (by omega))
          have hstep := le2_step l (8 * q + p) (8 - (p + 1))
          rw [show 8 * q + p + 1 = 8 * q + (p + 1) from by omega, hy, show 8 - (p + 1) + 1 = 8 - p from by omega] at hstep
          have HST := Lib.hid hstep
          rw [hy]
          clear hy hstep
          by_cases hin : 8 * q + p < n
          · obtain ⟨b, off, hA, hc⟩ := HS.out.at_ HM.out.2.1 hin
            subst hA
            obtain ⟨z, hz⟩ : ∃ z, (l[8 * q + p]?.getD 0).toNat = z := ⟨_, rfl⟩
            have hz2 : z < 256 := by rw [← hz]; exact UInt8.toNat_lt _
            rw [hz] at hc HST
            clear hz
            go_wp2
            go_roundg p
            case measure => omega
            case rel =>
              refine ⟨p, by go_num, ?_, by omega, by omega, rfl⟩
              rw [HST.out]
              go_num
          · have hz : (l[8 * q + p]?.getD 0).toNat = 0 := by rw [List.getElem?_eq_none (by rw [HS.out.1]; omega)]; rfl
            rw [hz] at HST
            clear hz
            go_wp2
            go_roundg p
            case measure => omega
            case rel =>
              refine ⟨p, by go_num, ?_, by omega, by omega, rfl⟩
              rw [HST.out]
              go_num
        · obtain rfl : m = 0 := by omega
          rw [Nat.add_zero, Nat.sub_zero]
          have hy2 := le2_eight l HB.out (8 * q)
          have hstep := le2_byte l (8 * q) (by rw [HS.out.1]; omega)
          obtain ⟨y, hy⟩ : ∃ y, le2 ((l.drop (8 * q)).take 8) = y := ⟨_, rfl⟩
          rw [hy] at hy2 hstep ⊢
          have HST := Lib.hid hstep
          obtain ⟨cb, rfl⟩ : ∃ cb : UInt8, cb.toNat = y := ⟨UInt8.ofNat y, by rw [UInt8.toNat_ofNat']; omega⟩
          clear hy hstep hm
          go_wp2_with (at_builtin
                       refine wpList_append_brow rfl (.tmp 34) (.tmp 37) 40 40 5 rfl Tryd.underlying40 info5 A1 q c1 1 t [cb] (.slice (some ⟨wr.heap.size, 0, none⟩) 1 1) rfl rfl (HM.out.1.alloc _) rfl (Src.oneByte Tryd.underlying40 wr cb 1 5) (by omega) ?_
                       intro A2 c2 w2 hrow2 honly2 hlies2
                       have HM2 := Lib.hid (HM.out.append hrow2 honly2 hlies2)
                       clear hrow2 honly2 hlies2)
          go_roundg (n - 8 * q)
          case measure => omega
          case rel =>
            refine ⟨q + 1, A2, c2, t ++ [cb], by go_num, rfl, by omega, by omega, by omega, ?_, HM2.out⟩
            rw [show 8 * (q + 1) = 8 * q + 8 from by omega, HST.out, le_append, HM.out.1.len, HT.out, pow256]
            simp [le]
    · have hc := HM.out.1.toText Tryd.underlying40 Tryd.underlying5 Tryd.underlying9
      have htl := HM.out.1.len
      have e : l.take (8 * q) = l := List.take_of_length_le (by rw [HS.out.1]; omega)
      rw [e] at HT
      have HTL := Lib.hid htl
      clear htl e
      go_wp2
      go_ret
      exact ⟨t, rfl, by rw [HTL.out]; omega, HT.out, HM.out.2.1⟩
end Go.Proofs.YtackcgiokkbhdaaDoor
