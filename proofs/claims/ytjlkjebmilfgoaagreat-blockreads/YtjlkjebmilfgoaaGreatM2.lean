/- Layer 1: bits of bytes, the reader of bits, a text of bits. -/
import Derived.Test.YtjlkjebmilfgoaaGreatM1
import Derived.Test.YtjlkjebmilfgoaaGreatRows
import Derived.Deep.LoopGhost
import Derived.BigQuiet
import Derived.Deep.QuietTactic
import Derived.Lib.Walk
import Derived.Lib.Strings
/- The document's answer for layer 1 (lists of bits), call by call: Of, Put, Align. -/
namespace Go.Proofs.YtjlkjebmilfgoaaGreat
open Go.RowKit

theorem info5 : (Tryz.prog.info? 5).map (fun i => (i.zero, i.size, i.bytes)) = some (some (.int .u8 0), 1, 1) := by kernel_rfl

/-- A row of the call's own, laid since w: nothing that was there has turned. -/
def BMade (w : World) (A : Option Addr) (n c : Nat) (l : List UInt8) (wx : World) : Prop := BRow 5 wx A n c l ∧ Only (fun _ => False) w wx ∧ ∀ j, Lies A j → w.heap.size ≤ j

theorem BMade.append {w wx wy : World} {A A' : Option Addr} {n c n' c' : Nat} {l l' : List UInt8} {o : Obj} (h : BMade w A n c l wx) (hr : BRow 5 wy A' n' c' l') (ho : Only (Lies A) (wx.alloc o) wy) (ha : A' = A ∨ A' = some ⟨(wx.alloc o).heap.size, 0, none⟩) : BMade w A' n' c' l' wy := by
  refine ⟨hr, (h.2.1.alloc o).andThen ho fun j hj => .inr (h.2.2 j hj), fun j hj => ?_⟩
  rcases ha with e | e
  · exact h.2.2 j (e ▸ hj)
  · obtain ⟨ad, e1, e2⟩ := hj
    rw [e] at e1
    obtain rfl := Option.some.inj e1
    have h1 := h.2.1.size
    have h2 : (wx.alloc o).heap.size = j := e2
    simp at h2
    omega

def OfPost (w : World) (s : ByteArray) (e : Ending) (w' : World) : Prop := ∃ A c, e = .returned (.slice A (8 * s.size) c) ∧ BMade w A (8 * s.size) c (bitsOf s.data.toList) w'

set_option maxHeartbeats 1000000 in
theorem of (s : ByteArray) (w : World) (hs : s.size ≤ 1073741824) : Calls Tryz.prog 39 #[.string s] w (OfPost w s) := by
  have b1 : (s.size : Int) ≤ 1073741824 := by omega
  go_enter Tryz.func39, Tryz.ntmps39
  go_wp2_with fail
  go_loopg [3, 4] s.size (fun gk o i wx => ∃ (k : Nat) (A : Option Addr) (c : Nat), i = .int .i64 k ∧ o = .slice A (8 * k) c ∧ k + gk ≤ s.size ∧ s.size ≤ k + gk ∧ BMade w A (8 * k) c (bitsOf (s.data.toList.take k)) wx)
  case atStart => exact ⟨0, none, 0, rfl, rfl, by omega, by omega, BRow.nil 5 w, Only.refl _ w, by rintro j ⟨ad, e, _⟩; cases e⟩
  case round =>
    obtain ⟨k, A, c, rfl, rfl, hk, hk2, hM⟩ := hrel
    have HM := Lib.hid hM
    clear hM
    by_cases hlt : k < s.size
    · obtain ⟨x, hx⟩ : ∃ x, s[k] = x := ⟨_, rfl⟩
      have hx2 : s.data.toList[k]? = some x := by rw [← hx, List.getElem?_eq_getElem (by simpa using hlt)]; rfl
      have hxl : x.toNat < 256 := x.toNat_lt
      have HX := Lib.hid hx2
      clear hx2
      go_wp2_with fail
      go_loopg [3, 5, 6] 8 (fun gj o n i wx => ∃ (j : Nat) (A : Option Addr) (c : Nat), i = .int .i64 j ∧ n = .int .i64 (x.toNat / 2 ^ j : Nat) ∧ o = .slice A (8 * k + j) c ∧ j + gj ≤ 8 ∧ 8 ≤ j + gj ∧ BMade w A (8 * k + j) c (bitsOf (s.data.toList.take k) ++ nb x.toNat j) wx)
      case atStart => exact ⟨0, A, c, rfl, by simp, rfl, by omega, by omega, by simpa [nb] using HM.out⟩
      case round =>
        obtain ⟨j, A, c, rfl, rfl, rfl, hj, hj2, hM⟩ := hrel
        clear HM
        have HM := Lib.hid hM
        have hq : x.toNat / 2 ^ j < 256 := Nat.lt_of_le_of_lt (Nat.div_le_self _ _) hxl
        obtain ⟨q, hq1⟩ : ∃ q, x.toNat / 2 ^ j = q := ⟨_, rfl⟩
        rw [hq1] at hq ⊢
        have HQ := Lib.hid hq1
        obtain ⟨cb, hby, hcb⟩ : ∃ cb : UInt8, (q : Int) % 2 = (cb.toNat : Int) ∧ cb = UInt8.ofNat (q % 2) := ⟨UInt8.ofNat (q % 2), by rw [UInt8.toNat_ofNat']; omega, rfl⟩
        have Hcb := Lib.hid hcb
        clear hM hq1 hcb
        by_cases hjl : j < 8
        · go_wp2_with (at_builtin
                       refine wpList_append_brow rfl (.tmp 21) (.tmp 25) 34 34 5 rfl Tryz.underlying34 info5 A (8 * k + j) c 1 _ [cb] (.slice (some ⟨wr.heap.size, 0, none⟩) 1 1) rfl rfl (HM.out.1.alloc _) rfl (Src.oneByte Tryz.underlying34 wr cb 1 5) (by omega) ?_
                       intro A2 c2 w2 hrow2 honly2 hlies2
                       have HM2 := Lib.hid (HM.out.append hrow2 honly2 hlies2)
                       clear hrow2 honly2 hlies2)
          go_roundg (gk - 1)
          case measure => omega
          case rel =>
            refine ⟨j + 1, A2, c2, by go_num, ?_, rfl, by omega, by omega, ?_⟩
            · have : x.toNat / 2 ^ (j + 1) = q / 2 := by rw [Nat.pow_succ, ← Nat.div_div_eq_div_mul, HQ.out]
              rw [this]
              go_num
            · rw [nb_succ, ← List.append_assoc, HQ.out, ← Hcb.out]
              exact HM2.out
        · obtain rfl : j = 8 := by omega
          go_wp2_with fail
          go_roundg (s.size - (k + 1))
          case measure => omega
          case rel =>
            refine ⟨k + 1, A, c, by go_num, ?_, by omega, by omega, ?_⟩
            · rfl
            · rw [bitsOf_snoc _ _ _ HX.out]
              exact HM.out
    · obtain rfl : k = s.size := by omega
      go_wp2
      go_ret
      refine ⟨A, c, rfl, ?_⟩
      have e : s.data.toList.take s.size = s.data.toList := List.take_of_length_le (by simp)
      rw [e] at HM
      exact HM.out
end Go.Proofs.YtjlkjebmilfgoaaGreat

/- The small calls of the reader of layer 1 (bits): each by a contract over the block in which the reader lies. -/
namespace Go.Proofs.YtjlkjebmilfgoaaGreat
open Go.RowKit
theorem low_eq (v n : Nat) (hv : v < 18446744073709551616) (hn : n ≤ 32) : bits BinOp.and IntKind.u64 (v : Int) (IntKind.u64.wrap (IntKind.u64.wrap (2 ^ n) - 1)) = ((v % 2 ^ n : Nat) : Int) := by
  have h1 : 2 ^ n ≤ 2 ^ 32 := Nat.pow_le_pow_right (by decide) hn
  have h2 : 0 < 2 ^ n := Nat.pow_pos (by decide)
  have e : ((2 : Int) ^ n) = ((2 ^ n : Nat) : Int) := by simp
  rw [e, IntWalk.u64_in ((2 ^ n : Nat) : Int) (by omega), IntWalk.u64_in _ (by omega), show (((2 ^ n : Nat) : Int) - 1) = ((2 ^ n - 1 : Nat) : Int) from by omega]
  rw [bits_and_u64_nat _ _ hv (by omega), and_low]
theorem lowest (v n : Nat) (w : World) (hv : v < 18446744073709551616) (hn : n ≤ 32) : Calls Tryz.prog 20 #[.int .u64 v, .int .i64 n] w fun e w' => e = .returned (.int .u64 (v % 2 ^ n : Nat)) ∧ w = w' := by
  have hl := low_eq v n hv hn
  go_enter Tryz.func20, Tryz.ntmps20
  go_wp2
  go_ret
  exact ⟨rfl, rfl⟩

theorem or_step (l : List UInt8) (k : Nat) (c : UInt8) (hk : k ≤ 4) (h : l[k]? = some c) :
    bits BinOp.or IntKind.u64 (le (l.take k) : Int) (IntKind.u64.wrap (IntKind.u64.wrap (c.toNat : Int) * 2 ^ (k * 8))) = (le (l.take (k + 1)) : Int) := by
  have hc : c.toNat < 256 := c.toNat_lt
  have hp : 2 ^ (k * 8) ≤ 2 ^ 32 := Nat.pow_le_pow_right (by decide) (by omega)
  have hl : le (l.take k) < 2 ^ (8 * k) := Nat.lt_of_lt_of_le (le_lt _) (by rw [pow256]; exact Nat.pow_le_pow_right (by decide) (by have := List.length_take_le k l; omega))
  have hm : 2 ^ (k * 8) * c.toNat ≤ 2 ^ 32 * 255 := Nat.mul_le_mul hp (by omega)
  have e : (c.toNat : Int) * 2 ^ (k * 8) = ((2 ^ (8 * k) * c.toNat : Nat) : Int) := by rw [Nat.mul_comm 8 k]; simp [Int.mul_comm]
  rw [Nat.mul_comm k 8] at hm hp
  rw [IntWalk.u64_in (c.toNat : Int) (by omega), e, IntWalk.u64_in _ (by omega), bits_or_u64_nat _ _ (by omega) (by omega), or_add _ _ _ hl]
  have hkl : k < l.length := by
    rcases Nat.lt_or_ge k l.length with hh | hh
    · exact hh
    · rw [List.getElem?_eq_none hh] at h; cases h
  rw [le_take_succ l k hkl, h, pow256]
  rfl

/-- Whether it has failed, as Err tells it. -/
def errOf (f : Bool) : Int := bif f then 3 else 0
end Go.Proofs.YtjlkjebmilfgoaaGreat

/- The reader of layer 1: Bits, Align, Bytes, NewReader, as steps of what a reader is. -/
namespace Go.Proofs.YtjlkjebmilfgoaaGreat
open Go.RowKit

theorem Only.one (w : World) (b i : Nat) (u : Value) : Only (· = b) w (w.setCell ⟨b, i, none⟩ u) := (Only.refl (· = b) w).set (p := ⟨b, i, none⟩) (.inl rfl) u
theorem Only.oneN (w : World) (k b i : Nat) (u : Value) : Only (· = b) w ((w.drewN k).setCell ⟨b, i, none⟩ u) := ((Only.refl (· = b) w).drewN k).trans (Only.one _ b i u)

/-- What a reader is asked for cannot be given. -/
def short (z a : Nat) (f : Bool) (n : Int) : Bool := f || decide (n < 0) || decide (32 < n) || decide (((8 * z - a : Nat) : Int) < n)

end Go.Proofs.YtjlkjebmilfgoaaGreat

/- The document's answer for layer 1: bytes of bits (Text). -/
namespace Go.Proofs.YtjlkjebmilfgoaaGreat
open Go.RowKit

/-- string(..) of a row of bytes. -/
theorem BRow.toText {P : Program} {src dst e : TypeId} {w : World} {A : Option Addr} {n c : Nat} {l : List UInt8} (hs : P.underlying src = some (.slice e)) (he : P.underlying e = some (.int .u8)) (hd : P.underlying dst = some .string) (h : BRow e w A n c l) :
    (convert src dst (.slice A n c)).run P w = .ok (.string ⟨l.toArray⟩) w := by
  rcases h.form with ⟨rfl, rfl, rfl, rfl⟩ | ⟨g, cur, rfl, _⟩
  · rw [run_convert_bytes_nil w src e hs he 0 0 dst hd]
    rfl
  · have hc : ∀ i, i < n → w.cell? ⟨g, 0 + i, none⟩ = some (.int .u8 ((l.map fun b => (b.toNat : Int)).getD i 0)) := by
      intro i hi
      obtain ⟨g', e1, e2, _⟩ := h.cell hi
      obtain rfl : g = g' := by simpa using e1
      have hl : i < l.length := by rw [h.len]; exact hi
      rw [Nat.zero_add, e2]
      simp [hl]
    rw [run_convert_bytes_arg w src e hs he g 0 n c (l.map fun b => (b.toNat : Int)) (by simpa using h.len) hc dst hd]
    have e : strOfNums (l.map fun b => (b.toNat : Int)) = ⟨l.toArray⟩ := by simp [strOfNums, Function.comp_def]
    rw [e]


/-- The slice 'A, n, ..' reads as the bytes l. -/
def Sees (w : World) (A : Option Addr) (n : Nat) (l : List UInt8) : Prop :=
  l.length = n ∧ ∀ i, i < n → ∃ b off, A = some ⟨b, off, none⟩ ∧ b < w.heap.size ∧ w.cell? ⟨b, off + i, none⟩ = some (.int .u8 (l[i]?.getD 0).toNat)

theorem Sees.of_row {e : TypeId} {w : World} {A : Option Addr} {n c : Nat} {l : List UInt8} (h : BRow e w A n c l) : Sees w A n l := by
  refine ⟨h.len, fun i hi => ?_⟩
  obtain ⟨g, hA, hc, _⟩ := h.cell hi
  refine ⟨g, 0, hA, h.lt g ⟨_, hA, rfl⟩, by rw [Nat.zero_add]; exact hc⟩
theorem Sees.at_ {w w' : World} {A : Option Addr} {n : Nat} {l : List UInt8} (h : Sees w A n l) (k : Only (fun _ => False) w w') {i : Nat} (hi : i < n) :
    ∃ b off, A = some ⟨b, off, none⟩ ∧ w'.cell? ⟨b, off + i, none⟩ = some (.int .u8 (l[i]?.getD 0).toNat) := by
  obtain ⟨b, off, hA, hb, hc⟩ := h.2 i hi
  exact ⟨b, off, hA, (World.cell?_of_block (k.block b hb id)).trans hc⟩

def TextPost (w : World) (n : Nat) (l : List UInt8) (e : Ending) (w' : World) : Prop :=
  ∃ t : List UInt8, e = .returned (.string ⟨t.toArray⟩) ∧ t.length = (n + 7) / 8 ∧ le t = le2 l ∧ Only (fun _ => False) w w'

set_option maxRecDepth 20000 in
set_option maxHeartbeats 2000000 in
theorem rtext (A : Option Addr) (n c : Nat) (l : List UInt8) (w : World) (h : Sees w A n l) (hb : Bits l) (hn : n ≤ 1073741824) : Calls Tryz.prog 10 #[.slice A n c] w (TextPost w n l) := by
  have b1 : (n : Int) ≤ 1073741824 := by omega
  have HS := Lib.hid h
  have HB := Lib.hid hb
  clear h hb
  go_enter Tryz.func10, Tryz.ntmps10
  go_wp2_with fail
  go_loopg [3, 4] (n + 8) (fun gk o i wx => ∃ (q : Nat) (A : Option Addr) (c : Nat) (t : List UInt8), i = .int .i64 (8 * q : Nat) ∧ o = .slice A q c ∧ 8 * q + gk ≤ n + 8 ∧ n + 8 ≤ 8 * q + gk ∧ 8 * q < n + 8 ∧ le t = le2 (l.take (8 * q)) ∧ BMade w A q c t wx)
  case atStart => exact ⟨0, none, 0, [], rfl, rfl, by omega, by omega, by omega, rfl, BRow.nil 5 w, Only.refl _ w, by rintro j ⟨ad, e, _⟩; cases e⟩
  case round =>
    obtain ⟨q, A1, c1, t, rfl, rfl, hk, hk2, hk3, ht, hM⟩ := hrel
    have HT := Lib.hid ht
    have HM := Lib.hid hM
    clear ht hM
    by_cases hlt : 8 * q < n
    · go_wp2_with fail
      go_loopg [5, 6] 8 (fun gj v i wx => ∃ (m : Nat), i = .int .i64 ((m : Int) - 1) ∧ v = .int .i64 (le2 ((l.drop (8 * q + m)).take (8 - m)) : Nat) ∧ m ≤ gj ∧ m ≤ 8 ∧ wx = wr)
      case atStart => exact ⟨8, rfl, by simp [le2], by omega, by omega, rfl⟩
      case round =>
        obtain ⟨m, rfl, rfl, hm, hm2, rfl⟩ := hrel
        by_cases hm0 : 0 < m
        · obtain ⟨p, rfl⟩ : ∃ p, m = p + 1 := ⟨m - 1, by omega⟩
          obtain ⟨y, hy⟩ : ∃ y, le2 ((l.drop (8 * q + (p + 1))).take (8 - (p + 1))) = y := ⟨_, rfl⟩
          have hy2 : y < 256 := by
            rw [← hy]
            refine Nat.lt_of_lt_of_le (le2_lt _ (bits_take (bits_drop HB.out _) _)) ?_
            exact Nat.pow_le_pow_right (n := 2) (j := 8) (by decide) (Nat.le_trans (List.length_take_le _ _) (by omega))
          have hstep := le2_step l (8 * q + p) (8 - (p + 1))
          rw [show 8 * q + p + 1 = 8 * q + (p + 1) from by omega, hy, show 8 - (p + 1) + 1 = 8 - p from by omega] at hstep
          have HST := Lib.hid hstep
          rw [hy]
          clear hy hstep
          by_cases hin : 8 * q + p < n
          · obtain ⟨b, off, hA, hc⟩ := HS.out.at_ HM.out.2.1 hin
            subst hA
            obtain ⟨z, hz⟩ : ∃ z, (l[8 * q + p]?.getD 0).toNat = z := ⟨_, rfl⟩
            have hz2 : z < 256 := by rw [← hz]; exact UInt8.toNat_lt _
            rw [hz] at hc HST
            clear hz
            go_wp2
            go_roundg p
            case measure => omega
            case rel =>
              refine ⟨p, by go_num, ?_, by omega, by omega, rfl⟩
              rw [HST.out]
              go_num
          · have hz : (l[8 * q + p]?.getD 0).toNat = 0 := by rw [List.getElem?_eq_none (by rw [HS.out.1]; omega)]; rfl
            rw [hz] at HST
            clear hz
            go_wp2
            go_roundg p
            case measure => omega
            case rel =>
              refine ⟨p, by go_num, ?_, by omega, by omega, rfl⟩
              rw [HST.out]
              go_num
        · obtain rfl : m = 0 := by omega
          rw [Nat.add_zero, Nat.sub_zero]
          have hy2 := le2_eight l HB.out (8 * q)
          have hstep := le2_byte l (8 * q) (by rw [HS.out.1]; omega)
          obtain ⟨y, hy⟩ : ∃ y, le2 ((l.drop (8 * q)).take 8) = y := ⟨_, rfl⟩
          rw [hy] at hy2 hstep ⊢
          have HST := Lib.hid hstep
          obtain ⟨cb, rfl⟩ : ∃ cb : UInt8, cb.toNat = y := ⟨UInt8.ofNat y, by rw [UInt8.toNat_ofNat']; omega⟩
          clear hy hstep hm
          go_wp2_with (at_builtin
                       refine wpList_append_brow rfl (.tmp 34) (.tmp 37) 34 34 5 rfl Tryz.underlying34 info5 A1 q c1 1 t [cb] (.slice (some ⟨wr.heap.size, 0, none⟩) 1 1) rfl rfl (HM.out.1.alloc _) rfl (Src.oneByte Tryz.underlying34 wr cb 1 5) (by omega) ?_
                       intro A2 c2 w2 hrow2 honly2 hlies2
                       have HM2 := Lib.hid (HM.out.append hrow2 honly2 hlies2)
                       clear hrow2 honly2 hlies2)
          go_roundg (n - 8 * q)
          case measure => omega
          case rel =>
            refine ⟨q + 1, A2, c2, t ++ [cb], by go_num, rfl, by omega, by omega, by omega, ?_, HM2.out⟩
            rw [show 8 * (q + 1) = 8 * q + 8 from by omega, HST.out, le_append, HM.out.1.len, HT.out, pow256]
            simp [le]
    · have hc := HM.out.1.toText Tryz.underlying34 Tryz.underlying5 Tryz.underlying9
      have htl := HM.out.1.len
      have e : l.take (8 * q) = l := List.take_of_length_le (by rw [HS.out.1]; omega)
      rw [e] at HT
      have HTL := Lib.hid htl
      clear htl e
      go_wp2
      go_ret
      exact ⟨t, rfl, by rw [HTL.out]; omega, HT.out, HM.out.2.1⟩
end Go.Proofs.YtjlkjebmilfgoaaGreat
