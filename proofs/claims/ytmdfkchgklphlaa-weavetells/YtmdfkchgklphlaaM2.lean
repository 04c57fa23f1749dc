/- Layer 1: bits of bytes, the reader of bits, a text of bits. -/
import Derived.Test.YtmdfkchgklphlaaM1
import Derived.Test.YtmdfkchgklphlaaRows
import Derived.Deep.LoopGhost
import Derived.BigQuiet
import Derived.Deep.QuietTactic
import Derived.Lib.Walk
import Derived.Lib.Strings
/- The document's answer for layer 1 (lists of bits), call by call: Of, Put, Align. -/
namespace Go.Proofs.Ytmdfkchgklphlaa
open Go.RowKit

theorem info5 : (Try.prog.info? 5).map (fun i => (i.zero, i.size, i.bytes)) = some (some (.int .u8 0), 1, 1) := by kernel_rfl

/-- A row of the call's own, laid since w: nothing that was there has turned. -/
def BMade (w : World) (A : Option Addr) (n c : Nat) (l : List UInt8) (wx : World) : Prop := BRow 5 wx A n c l ∧ Only (fun _ => False) w wx ∧ ∀ j, Lies A j → w.heap.size ≤ j

theorem BMade.append {w wx wy : World} {A A' : Option Addr} {n c n' c' : Nat} {l l' : List UInt8} {o : Obj} (h : BMade w A n c l wx) (hr : BRow 5 wy A' n' c' l') (ho : Only (Lies A) (wx.alloc o) wy) (ha : A' = A ∨ A' = some ⟨(wx.alloc o).heap.size, 0, none⟩) : BMade w A' n' c' l' wy := by
  refine ⟨hr, (h.2.1.alloc o).andThen ho fun j hj => .inr (h.2.2 j hj), fun j hj => ?_⟩
  rcases ha with e | e
  · exact h.2.2 j (e ▸ hj)
  · obtain ⟨ad, e1, e2⟩ := hj
    rw [e] at e1
    obtain rfl := Option.some.inj e1
    have h1 := h.2.1.size
    have h2 : (wx.alloc o).heap.size = j := e2
    simp at h2
    omega

def OfPost (w : World) (s : ByteArray) (e : Ending) (w' : World) : Prop := ∃ A c, e = .returned (.slice A (8 * s.size) c) ∧ BMade w A (8 * s.size) c (bitsOf s.data.toList) w'

end Go.Proofs.Ytmdfkchgklphlaa

/- The small calls of the reader of layer 1 (bits): each by a contract over the block in which the reader lies. -/
namespace Go.Proofs.Ytmdfkchgklphlaa
open Go.RowKit
theorem low_eq (v n : Nat) (hv : v < 18446744073709551616) (hn : n ≤ 32) : bits BinOp.and IntKind.u64 (v : Int) (IntKind.u64.wrap (IntKind.u64.wrap (2 ^ n) - 1)) = ((v % 2 ^ n : Nat) : Int) := by
  have h1 : 2 ^ n ≤ 2 ^ 32 := Nat.pow_le_pow_right (by decide) hn
  have h2 : 0 < 2 ^ n := Nat.pow_pos (by decide)
  have e : ((2 : Int) ^ n) = ((2 ^ n : Nat) : Int) := by simp
  rw [e, IntWalk.u64_in ((2 ^ n : Nat) : Int) (by omega), IntWalk.u64_in _ (by omega), show (((2 ^ n : Nat) : Int) - 1) = ((2 ^ n - 1 : Nat) : Int) from by omega]
  rw [bits_and_u64_nat _ _ hv (by omega), and_low]
theorem or_step (l : List UInt8) (k : Nat) (c : UInt8) (hk : k ≤ 4) (h : l[k]? = some c) :
    bits BinOp.or IntKind.u64 (le (l.take k) : Int) (IntKind.u64.wrap (IntKind.u64.wrap (c.toNat : Int) * 2 ^ (k * 8))) = (le (l.take (k + 1)) : Int) := by
  have hc : c.toNat < 256 := c.toNat_lt
  have hp : 2 ^ (k * 8) ≤ 2 ^ 32 := Nat.pow_le_pow_right (by decide) (by omega)
  have hl : le (l.take k) < 2 ^ (8 * k) := Nat.lt_of_lt_of_le (le_lt _) (by rw [pow256]; exact Nat.pow_le_pow_right (by decide) (by have := List.length_take_le k l; omega))
  have hm : 2 ^ (k * 8) * c.toNat ≤ 2 ^ 32 * 255 := Nat.mul_le_mul hp (by omega)
  have e : (c.toNat : Int) * 2 ^ (k * 8) = ((2 ^ (8 * k) * c.toNat : Nat) : Int) := by rw [Nat.mul_comm 8 k]; simp [Int.mul_comm]
  rw [Nat.mul_comm k 8] at hm hp
  rw [IntWalk.u64_in (c.toNat : Int) (by omega), e, IntWalk.u64_in _ (by omega), bits_or_u64_nat _ _ (by omega) (by omega), or_add _ _ _ hl]
  have hkl : k < l.length := by
    rcases Nat.lt_or_ge k l.length with hh | hh
    · exact hh
    · rw [List.getElem?_eq_none hh] at h; cases h
  rw [le_take_succ l k hkl, h, pow256]
  rfl

/-- Whether it has failed, as Err tells it. -/
def errOf (f : Bool) : Int := bif f then 3 else 0
end Go.Proofs.Ytmdfkchgklphlaa

/- The reader of layer 1: Bits, Align, Bytes, NewReader, as steps of what a reader is. -/
namespace Go.Proofs.Ytmdfkchgklphlaa
open Go.RowKit

theorem Only.one (w : World) (b i : Nat) (u : Value) : Only (· = b) w (w.setCell ⟨b, i, none⟩ u) := (Only.refl (· = b) w).set (p := ⟨b, i, none⟩) (.inl rfl) u
theorem Only.oneN (w : World) (k b i : Nat) (u : Value) : Only (· = b) w ((w.drewN k).setCell ⟨b, i, none⟩ u) := ((Only.refl (· = b) w).drewN k).trans (Only.one _ b i u)

/-- What a reader is asked for cannot be given. -/
def short (z a : Nat) (f : Bool) (n : Int) : Bool := f || decide (n < 0) || decide (32 < n) || decide (((8 * z - a : Nat) : Int) < n)

end Go.Proofs.Ytmdfkchgklphlaa

/- The document's answer for layer 1: bytes of bits (Text). -/
namespace Go.Proofs.Ytmdfkchgklphlaa
open Go.RowKit

/-- string(..) of a row of bytes. -/
theorem BRow.toText {P : Program} {src dst e : TypeId} {w : World} {A : Option Addr} {n c : Nat} {l : List UInt8} (hs : P.underlying src = some (.slice e)) (he : P.underlying e = some (.int .u8)) (hd : P.underlying dst = some .string) (h : BRow e w A n c l) :
    (convert src dst (.slice A n c)).run P w = .ok (.string ⟨l.toArray⟩) w := by
  rcases h.form with ⟨rfl, rfl, rfl, rfl⟩ | ⟨g, cur, rfl, _⟩
  · rw [run_convert_bytes_nil w src e hs he 0 0 dst hd]
    rfl
  · have hc : ∀ i, i < n → w.cell? ⟨g, 0 + i, none⟩ = some (.int .u8 ((l.map fun b => (b.toNat : Int)).getD i 0)) := by
      intro i hi
      obtain ⟨g', e1, e2, _⟩ := h.cell hi
      obtain rfl : g = g' := by simpa using e1
      have hl : i < l.length := by rw [h.len]; exact hi
      rw [Nat.zero_add, e2]
      simp [hl]
    rw [run_convert_bytes_arg w src e hs he g 0 n c (l.map fun b => (b.toNat : Int)) (by simpa using h.len) hc dst hd]
    have e : strOfNums (l.map fun b => (b.toNat : Int)) = ⟨l.toArray⟩ := by simp [strOfNums, Function.comp_def]
    rw [e]


/-- The slice 'A, n, ..' reads as the bytes l. -/
def Sees (w : World) (A : Option Addr) (n : Nat) (l : List UInt8) : Prop :=
  l.length = n ∧ ∀ i, i < n → ∃ b off, A = some ⟨b, off, none⟩ ∧ b < w.heap.size ∧ w.cell? ⟨b, off + i, none⟩ = some (.int .u8 (l[i]?.getD 0).toNat)

theorem Sees.of_row {e : TypeId} {w : World} {A : Option Addr} {n c : Nat} {l : List UInt8} (h : BRow e w A n c l) : Sees w A n l := by
  refine ⟨h.len, fun i hi => ?_⟩
  obtain ⟨g, hA, hc, _⟩ := h.cell hi
  refine ⟨g, 0, hA, h.lt g ⟨_, hA, rfl⟩, by rw [Nat.zero_add]; exact hc⟩
theorem Sees.at_ {w w' : World} {A : Option Addr} {n : Nat} {l : List UInt8} (h : Sees w A n l) (k : Only (fun _ => False) w w') {i : Nat} (hi : i < n) :
    ∃ b off, A = some ⟨b, off, none⟩ ∧ w'.cell? ⟨b, off + i, none⟩ = some (.int .u8 (l[i]?.getD 0).toNat) := by
  obtain ⟨b, off, hA, hb, hc⟩ := h.2 i hi
  exact ⟨b, off, hA, (World.cell?_of_block (k.block b hb id)).trans hc⟩

def TextPost (w : World) (n : Nat) (l : List UInt8) (e : Ending) (w' : World) : Prop :=
  ∃ t : List UInt8, e = .returned (.string ⟨t.toArray⟩) ∧ t.length = (n + 7) / 8 ∧ le t = le2 l ∧ Only (fun _ => False) w w'

end Go.Proofs.Ytmdfkchgklphlaa
