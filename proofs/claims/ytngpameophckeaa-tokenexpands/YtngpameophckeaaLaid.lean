/- Layer 7: what a token says, laid down behind bytes, in the program. -/
import Derived.Test.YtngpameophckeaaMay
namespace Go.Proofs.Ytngpameophckeaa
open Go.RowKit

def LaidPost (w0 : World) (l : List UInt8) (n : Nat) (e : Ending) (w' : World) : Prop := ∃ A c, e = .returned (.slice A n c) ∧ Made 5 w0 A n c (bcells l) w'
theorem Made.alloc {e : TypeId} {w0 wx : World} {A : Option Addr} {n c : Nat} {vs : List Value} (h : Made e w0 A n c vs wx) (o : Obj) : Made e w0 A n c vs (wx.alloc o) := ⟨h.1.alloc o, h.2.1.alloc o, h.2.2⟩
theorem byte_lt (b : UInt8) : b.toNat < 256 := b.toNat_lt
/-- Where copying stands. -/
def LaidAt (w0 : World) (g : Nat) (cs : List Value) (A : Option Addr) (n c : Nat) (l : List UInt8) (wx : World) : Prop := l.length = n ∧ Made 5 w0 A n c (bcells l) wx ∧ Is wx g 30 cs ∧ ¬ Lies A g
theorem LaidAt.more {w0 wx wy : World} {g : Nat} {cs : List Value} {A A' : Option Addr} {n c c' : Nat} {l : List UInt8} {x : UInt8} {o : Obj} (h : LaidAt w0 g cs A n c l wx) (hr : Row 5 wy A' (n + 1) c' (bcells l ++ [.int .u8 (x.toNat : Nat)])) (ho : Only (Lies A) (wx.alloc o) wy)
    (ha : A' = A ∨ A' = some ⟨(wx.alloc o).heap.size, 0, none⟩) : LaidAt w0 g cs A' (n + 1) c' (l ++ [x]) wy := by
  rw [bcells_snoc] at hr
  refine ⟨by simp [h.1], h.2.1.append hr ho ha, (h.2.2.1.alloc o).only ho h.2.2.2, ?_⟩
  rcases ha with e | e
  · rw [e]; exact h.2.2.2
  · rintro ⟨ad, e1, e2⟩
    rw [e] at e1
    obtain rfl := Option.some.inj e1
    have h1 := h.2.2.1.lt
    have h2 : (wx.alloc o).heap.size = g := e2
    simp at h2
    omega

set_option maxHeartbeats 2000000 in
theorem laid_byte (w0 w : World) (A : Option Addr) (m c : Nat) (l : List UInt8) (b : UInt8) (h : Made 5 w0 A m c (bcells l) w) (hm : m ≤ 1000000) :
    Calls Try.prog 19 #[.slice A m c, tkV ⟨b, 0, 0⟩] w (LaidPost w0 (l ++ [b]) (m + 1)) := by
  unfold tkV
  obtain ⟨y, hy⟩ : ∃ y, b.toNat = y := ⟨_, rfl⟩
  simp only [hy]
  have HM := Lib.hid h
  have HY := Lib.hid hy
  have hwb : ∃ wb, w.alloc (.cells #[.int .u8 y, .int .i64 0, .int .i64 0] 30) = wb := ⟨_, rfl⟩
  obtain ⟨wb, hwb⟩ := hwb
  have HB : Hid (Made 5 w0 A m c (bcells l) wb) := Lib.hid (hwb ▸ h.alloc _)
  have hi : Is wb w.heap.size 30 [.int .u8 y, .int .i64 0, .int .i64 0] := hwb ▸ Is.new w 30 _
  have c0 := hi.cell 0 rfl
  have c1 := hi.cell 1 rfl
  have c2 := hi.cell 2 rfl
  clear h hy hi
  go_enter Try.func19, Try.ntmps19
  go_upto_region 2 with fail
  go_wp2_with (at_builtin
               refine wpList_append_row rfl (.tmp 8) (.tmp 11) 38 38 5 rfl Try.underlying38 info5 A m c 1 (bcells l) [.int .u8 (y : Nat)] (.slice (some ⟨wb.heap.size, 0, none⟩) 1 1) (by rfl) (by first | rfl | (rw [← hwb]; rfl)) (HB.out.1.alloc _) rfl (Src.oneInt Try.underlying38 wb .u8 y 1 5) (by omega) (by omega) ?_
               intro A2 c2 w2 hrow2 honly2 hlies2
               have HR := Lib.hid hrow2
               have HO := Lib.hid honly2
               have HL := Lib.hid hlies2
               clear hrow2 honly2 hlies2)
  go_ret
  have hr := HR.out
  rw [← HY.out, bcells_snoc] at hr
  exact ⟨A2, c2, rfl, HB.out.append hr HO.out HL.out⟩

set_option maxHeartbeats 4000000 in
theorem laid_copy (w0 w : World) (A : Option Addr) (m c : Nat) (l : List UInt8) (b : UInt8) (n k : Nat) (h : Made 5 w0 A m c (bcells l) w) (hm : m ≤ 1000000) (hk1 : 1 ≤ k) (hk2 : k ≤ m) (hn0 : 0 < n) (hn : n ≤ 258) :
    Calls Try.prog 19 #[.slice A m c, tkV ⟨b, n, k⟩] w (LaidPost w0 (copyF k n l) (m + n)) := by
  unfold tkV
  obtain ⟨y, hy⟩ : ∃ y, b.toNat = y := ⟨_, rfl⟩
  simp only [hy]
  clear hy
  obtain ⟨g, hg⟩ : ∃ g, w.heap.size = g := ⟨_, rfl⟩
  obtain ⟨wb, hwb⟩ : ∃ wb, w.alloc (.cells #[.int .u8 y, .int .i64 n, .int .i64 k] 30) = wb := ⟨_, rfl⟩
  have hi : Is wb g 30 [.int .u8 y, .int .i64 n, .int .i64 k] := hg ▸ hwb ▸ Is.new w 30 _
  have HL : Hid (LaidAt w0 g [.int .u8 y, .int .i64 n, .int .i64 k] A m c l wb) := Lib.hid ⟨by rw [← bcells_length, h.1.1], hwb ▸ h.alloc _, hi, fun hl => by have := h.1.lies g hl; omega⟩
  have c0 := hi.cell 0 rfl
  have c1 := hi.cell 1 rfl
  have c2 := hi.cell 2 rfl
  have hn1 : ((n : Int) == 0) = false := by simp; omega
  have hn2 : ¬ (n : Int) = 0 := by omega
  clear h hi
  go_enter Try.func19, Try.ntmps19
  go_wp2_with fail
  clear c0 c1 c2 hwb
  go_loopg [0, 15] n (fun gk v0 i wx => ∃ (j q : Nat) (A' : Option Addr) (c' : Nat), i = .int .i64 j ∧ v0 = .slice A' q c' ∧ m + j = q ∧ j + gk ≤ n ∧ n ≤ j + gk ∧ Hid (LaidAt w0 g [.int .u8 y, .int .i64 n, .int .i64 k] A' q c' (copyF k j l) wx))
  case atStart => exact ⟨0, m, A, c, rfl, rfl, by omega, by omega, by omega, HL⟩
  case round =>
    clear HL
    obtain ⟨j, q, A', c', rfl, rfl, hq, hg1, hg2, HL⟩ := hrel
    by_cases hlt : j < n
    · obtain ⟨p, hp⟩ : ∃ p, p + k = q := ⟨q - k, by omega⟩
      have ep : (q : Int) - (k : Int) = (p : Int) := by omega
      have c2 := HL.out.2.2.1.cell 2 rfl
      obtain ⟨g', rfl, hc, _⟩ := HL.out.2.1.1.cell (bcells_at (copyF k j l) p (by rw [HL.out.1]; omega))
      obtain ⟨x, hx⟩ : ∃ x, (copyF k j l).getD p 0 = x := ⟨_, rfl⟩
      obtain ⟨z, hz⟩ : ∃ z, x.toNat = z := ⟨_, rfl⟩
      rw [hx, hz] at hc
      have HX : Hid (copyF k j l ++ [x] = copyF k (j + 1) l) := Lib.hid (by rw [copyF_snoc, HL.out.1, ← hx]; congr 3; omega)
      have HZ := Lib.hid hz
      clear hx hz
      go_upto_region 5 with fail
      go_wp2_with (at_builtin
                   refine wpList_append_row rfl (.tmp 17) (.tmp 26) 38 38 5 rfl Try.underlying38 info5 (some ⟨g', 0, none⟩) q c' 1 (bcells (copyF k j l)) [.int .u8 (z : Nat)] (.slice (some ⟨wr.heap.size, 0, none⟩) 1 1) (by rfl) (by rfl) (HL.out.2.1.1.alloc _) rfl (Src.oneInt Try.underlying38 wr .u8 z 1 5) (by omega) (by omega) ?_
                   intro A2 c2 w2 hrow2 honly2 hlies2
                   have HR := Lib.hid hrow2
                   have HO := Lib.hid honly2
                   have HLI := Lib.hid hlies2
                   clear hrow2 honly2 hlies2)
      have HN : Hid (LaidAt w0 g [.int .u8 y, .int .i64 n, .int .i64 k] A2 (q + 1) c2 (copyF k (j + 1) l) w2) := Lib.hid (by
        rw [← HX.out]
        have hr := HR.out
        rw [← HZ.out] at hr
        exact HL.out.more hr HO.out HLI.out)
      go_roundg (gk - 1)
      case measure => omega
      case rel => exact ⟨j + 1, q + 1, A2, c2, by go_num, rfl, by omega, by omega, by omega, HN⟩
    · obtain rfl : j = n := by omega
      have HN : Hid (LaidPost w0 (copyF k j l) (m + j) (.returned (.slice A' q c')) wr) := Lib.hid ⟨A', c', by rw [hq], hq ▸ HL.out.2.1⟩
      go_wp2
      go_ret
      exact HN.out

theorem laid (w0 w : World) (A : Option Addr) (m c : Nat) (l : List UInt8) (t : Tk) (h : Made 5 w0 A m c (bcells l) w) (hm : m ≤ 1000000) (ht : mayB t = true) (hk : t.k ≤ m) :
    Calls Try.prog 19 #[.slice A m c, tkV t] w (LaidPost w0 (layF t l) (m + (sayN t).toNat)) := by
  obtain ⟨b, n, k⟩ := t
  rcases may_cases _ ht with ⟨h1, h2⟩ | ⟨h1, h2, h3, h4⟩
  · simp only at h1 h2
    subst h1 h2
    simpa [layF, sayN] using laid_byte w0 w A m c l b h hm
  · simp only at h1 h2 h3 h4 hk
    obtain ⟨n', rfl⟩ : ∃ n' : Nat, n = n' := ⟨n.toNat, by omega⟩
    obtain ⟨k', rfl⟩ : ∃ k' : Nat, k = k' := ⟨k.toNat, by omega⟩
    have e : ¬ (n' : Int) = 0 := by omega
    simpa only [layF, sayN, if_neg e, Int.toNat_natCast] using laid_copy w0 w A m c l b n' k' h hm (by omega) (by omega) (by omega) (by omega)
end Go.Proofs.Ytngpameophckeaa
