/- Layer 8, the program: Stream, All and Blocks. -/
import Derived.Test.YtackcgiokkbhdaaDoorReadP
namespace Go.Proofs.YtackcgiokkbhdaaDoor
open Go.RowKit

theorem Row.text5 {w : World} {A : Option Addr} {n c : Nat} {l : List UInt8} (h : Row 5 w A n c (bcells l)) (hl : l.length = n) : (convert 40 9 (.slice A n c)).run Tryd.prog w = .ok (.string ⟨l.toArray⟩) w := by
  have hc := fun i v hv => h.cell (i := i) (v := v) hv
  obtain ⟨h1, ⟨rfl, rfl, rfl, hv⟩ | ⟨g, cur, m, rfl, h2, _⟩⟩ := h
  · obtain rfl : l = [] := by simpa [bcells] using hv
    rw [run_convert_bytes_nil w 40 5 Tryd.underlying40 Tryd.underlying5 0 0 9 Tryd.underlying9]
    rfl
  · have hcc : ∀ i, i < n → w.cell? ⟨g, 0 + i, none⟩ = some (.int .u8 ((l.map fun b => (b.toNat : Int)).getD i 0)) := by
      intro i hi
      obtain ⟨g', e1, e2, _⟩ := hc i _ (bcells_at l i (by omega))
      obtain rfl : g = g' := by simpa using e1
      have hl2 : i < l.length := by omega
      rw [Nat.zero_add, e2]
      simp [hl2]
    rw [run_convert_bytes_arg w 40 5 Tryd.underlying40 Tryd.underlying5 g 0 n c (l.map fun b => (b.toNat : Int)) (by simpa using hl) hcc 9 Tryd.underlying9]
    have e : strOfNums (l.map fun b => (b.toNat : Int)) = ⟨l.toArray⟩ := by simp [strOfNums, Function.comp_def]
    rw [e]

/-- What a stream says, how many bytes it takes. -/
def mText (r : Nat × Nat × List UInt8 × List Nat) : ByteArray := if r.1 ≠ 0 then ByteArray.empty else ⟨r.2.2.1.toArray⟩
def mTaken (r : Nat × Nat × List UInt8 × List Nat) : Nat := if r.1 ≠ 0 then 0 else (r.2.1 + 7) / 8
def mKinds (r : Nat × Nat × List UInt8 × List Nat) : List Nat := if r.1 ≠ 0 then [] else r.2.2.2

def StreamPost (w : World) (r : Nat × Nat × List UInt8 × List Nat) (e : Ending) (w' : World) : Prop := e = .returned (.tuple #[.string (mText r), .int .i64 (mTaken r : Nat), .int .i64 r.1]) ∧ Only (fun _ => False) w w'

/-- A stream ends within its bits. -/
theorem mStr_ok (B : List UInt8) (most : Int) (M : Nat) (hM : most ≤ M) : ∀ (f a : Nat) (out : List UInt8) (ks : List Nat), a ≤ B.length → out.length ≤ M → (mStr B most f a out ks).1 = 0 → (mStr B most f a out ks).2.1 ≤ B.length ∧ (mStr B most f a out ks).2.2.1.length ≤ M ∧ (mStr B most f a out ks).2.2.2.length ≤ ks.length + f
  | 0, a, out, ks, _, _, h => by cases h
  | f + 1, a, out, ks, ha, ho, h => by
    rw [mStr_step] at h ⊢
    by_cases h1 : B.length < a + 3
    · rw [if_pos h1] at h; cases h
    · rw [if_neg h1] at h ⊢
      have hb := mBlock_ok B most M (nm B (a + 1) 2) (a + 3) out hM (by omega) ho
      by_cases h2 : (mBlock B most (nm B (a + 1) 2) (a + 3) out).1 ≠ 0
      · rw [if_pos h2] at h; exact absurd h h2
      · rw [if_neg h2] at h ⊢
        have hb := hb (by omega)
        by_cases h3 : nm B a 1 = 1
        · rw [if_pos h3]
          exact ⟨hb.2.1, hb.2.2, by simp⟩
        · rw [if_neg h3] at h ⊢
          have := mStr_ok B most M hM f _ _ (ks ++ [nm B (a + 1) 2]) hb.2.1 hb.2.2 h
          rw [List.length_append] at this
          simp at this
          exact ⟨this.1, this.2.1, by omega⟩
theorem mStream_ok (B : List UInt8) (most : Int) (M : Nat) (hM : most ≤ M) (h : (mStream B most).1 = 0) : (mStream B most).2.1 ≤ B.length ∧ (mStream B most).2.2.1.length ≤ M ∧ (mStream B most).2.2.2.length ≤ B.length + 1 := by
  have := mStr_ok B most M hM (B.length + 1) 0 [] [] (Nat.zero_le _) (Nat.zero_le _) h
  simpa [mStream] using this

set_option maxRecDepth 20000 in
set_option maxHeartbeats 2000000 in
theorem pstream (s : ByteArray) (most : Int) (w : World) (hg : GTab w) (hs : s.size ≤ 10000) (hmost : most ≤ 100000) (hlow : -9223372036854775808 ≤ most) :
    Calls Tryd.prog 7 #[.string s, .int .i64 most] w (StreamPost w (mStream (bitsOf s.data.toList) most)) := by
  have HR := Lib.hid (read s most w hg hs hmost hlow)
  have hok := mStream_ok (bitsOf s.data.toList) most 100000 (by omega)
  rw [bits_len] at hok
  obtain ⟨⟨x, a, out, ks⟩, hq⟩ : ∃ q, mStream (bitsOf s.data.toList) most = q := ⟨_, rfl⟩
  rw [hq] at HR hok ⊢
  simp only at hok
  clear hq hg
  go_enter Tryd.func7, Tryd.ntmps7
  go_wp2_with fail
  refine HR.out.mono ?_
  rintro e w2 ⟨ho2, hif⟩
  have HO := Lib.hid ho2
  clear ho2 HR
  by_cases hx : x = 0
  · subst hx
    rw [if_neg (by simp)] at hif
    obtain ⟨b, d, A, c, Ak, ck, p1, p2, rfl, h⟩ := hif
    simp only at h
    obtain ⟨m1, m2, m3⟩ := hok rfl
    have c0 := h.str.is.cell 0 rfl
    have c2 := h.str.is.cell 2 rfl
    have HT := Lib.hid (h.str.row.text5 rfl)
    have HRD := Lib.hid h.rd
    have HP : Hid (StreamPost w (0, a, out, ks) (.returned (.tuple #[.string ⟨out.toArray⟩, .int .i64 ((a + 7) / 8 : Nat), .int .i64 0])) w2) := Lib.hid ⟨rfl, HO.out⟩
    obtain ⟨n, hn⟩ : ∃ n, out.length = n := ⟨_, rfl⟩
    rw [hn] at c2 HT
    obtain ⟨t, ht⟩ : ∃ t : ByteArray, ⟨out.toArray⟩ = t := ⟨_, rfl⟩
    rw [ht] at HP HT
    have ht2 := HT.out
    have ea : ((a : Int) + 7) / 8 = ((a + 7) / 8 : Nat) := by omega
    obtain ⟨q, hq⟩ : ∃ q, (a + 7) / 8 = q := ⟨_, rfl⟩
    rw [hq] at ea HP
    clear h hok hn ht m2 m3 HT hq
    go_wp2_with fail
    refine (at_ b s a false w2 HRD.out).mono ?_
    rintro e w3 ⟨rfl, rfl⟩
    go_wp2
    go_ret3
    first
      | exact HP.out
      | (have hp := HP.out
         rw [← ea] at hp
         have e8 : (a : Int) + 8 - 1 = (a : Int) + 7 := by omega
         simpa [e8] using hp)
  · rw [if_pos hx] at hif
    subst hif
    have hx2 : ¬ (x : Int) = 0 := by omega
    have HP : Hid (StreamPost w (x, a, out, ks) (.returned (.tuple #[.string ByteArray.empty, .int .i64 0, .int .i64 x])) w2) := Lib.hid ⟨by rw [show mText (x, a, out, ks) = ByteArray.empty from if_pos hx, show mTaken (x, a, out, ks) = 0 from if_pos hx]; rfl, HO.out⟩
    clear hok
    go_wp2
    go_ret3
    exact HP.out

def KindsPost (w : World) (r : Nat × Nat × List UInt8 × List Nat) (e : Ending) (w' : World) : Prop := ∃ A c, e = .returned (.tuple #[.slice A (mKinds r).length c, .int .i64 r.1]) ∧ See w' w'.heap.size A (ints (mKinds r)) ∧ Only (fun _ => False) w w'
set_option maxRecDepth 20000 in
set_option maxHeartbeats 2000000 in
theorem pblocks (s : ByteArray) (most : Int) (w : World) (hg : GTab w) (hs : s.size ≤ 10000) (hmost : most ≤ 100000) (hlow : -9223372036854775808 ≤ most) :
    Calls Tryd.prog 11 #[.string s, .int .i64 most] w (KindsPost w (mStream (bitsOf s.data.toList) most)) := by
  have HR := Lib.hid (read s most w hg hs hmost hlow)
  obtain ⟨⟨x, a, out, ks⟩, hq⟩ : ∃ q, mStream (bitsOf s.data.toList) most = q := ⟨_, rfl⟩
  rw [hq] at HR ⊢
  clear hq hg
  go_enter Tryd.func11, Tryd.ntmps11
  go_wp2_with fail
  refine HR.out.mono ?_
  rintro e w2 ⟨ho2, hif⟩
  have HO := Lib.hid ho2
  clear ho2 HR
  by_cases hx : x = 0
  · subst hx
    rw [if_neg (by simp)] at hif
    obtain ⟨b, d, A, c, Ak, ck, p1, p2, rfl, h⟩ := hif
    simp only at h
    have c3 := h.str.is.cell 3 rfl
    have HP : Hid (KindsPost w (0, a, out, ks) (.returned (.tuple #[.slice Ak ks.length ck, .int .i64 0])) w2) := Lib.hid ⟨Ak, ck, rfl, h.krow.see, HO.out⟩
    obtain ⟨n, hn⟩ : ∃ n, ks.length = n := ⟨_, rfl⟩
    rw [hn] at c3 HP
    clear h hn
    go_wp2
    go_ret2
    exact HP.out
  · rw [if_pos hx] at hif
    subst hif
    have hx2 : ¬ (x : Int) = 0 := by omega
    have HP : Hid (KindsPost w (x, a, out, ks) (.returned (.tuple #[.slice none 0 0, .int .i64 x])) w2) := Lib.hid (by
      have e : mKinds (x, a, out, ks) = [] := if_pos hx
      refine ⟨none, 0, by rw [e]; rfl, ?_, HO.out⟩
      rw [e]
      intro i v hv
      simp [ints] at hv)
    go_wp2
    go_ret2
    exact HP.out

/-- What All comes to. -/
def mAll (z : Nat) (r : Nat × Nat × List UInt8 × List Nat) : ByteArray × Nat := if r.1 ≠ 0 then (ByteArray.empty, r.1) else if mTaken r < z then (ByteArray.empty, 2) else (mText r, 0)
def AllPost (w : World) (q : ByteArray × Nat) (e : Ending) (w' : World) : Prop := e = .returned (.tuple #[.string q.1, .int .i64 q.2]) ∧ Only (fun _ => False) w w'
set_option maxRecDepth 20000 in
set_option maxHeartbeats 2000000 in
theorem pall (s : ByteArray) (most : Int) (w : World) (hg : GTab w) (hs : s.size ≤ 10000) (hmost : most ≤ 100000) (hlow : -9223372036854775808 ≤ most) :
    Calls Tryd.prog 9 #[.string s, .int .i64 most] w (AllPost w (mAll s.size (mStream (bitsOf s.data.toList) most))) := by
  have HR := Lib.hid (pstream s most w hg hs hmost hlow)
  obtain ⟨r, hq⟩ : ∃ q, mStream (bitsOf s.data.toList) most = q := ⟨_, rfl⟩
  rw [hq] at HR ⊢
  unfold mAll
  unfold StreamPost at HR
  obtain ⟨t, ht⟩ : ∃ t, mText r = t := ⟨_, rfl⟩
  obtain ⟨k, hk⟩ : ∃ k, mTaken r = k := ⟨_, rfl⟩
  rw [ht, hk] at HR ⊢
  clear hq hg ht hk
  by_cases hx : r.1 = 0
  · rw [if_neg (by simpa using hx)]
    rw [hx] at HR
    by_cases hlt : k < s.size
    · rw [if_pos hlt]
      have hl2 : (k : Int) < (s.size : Int) := by omega
      go_enter Tryd.func9, Tryd.ntmps9
      go_wp2_with fail
      refine HR.out.mono ?_
      rintro e w2 ⟨rfl, ho2⟩
      have HO := Lib.hid ho2
      clear ho2 HR
      go_wp2
      go_ret2
      exact ⟨rfl, HO.out⟩
    · rw [if_neg hlt]
      have hl2 : ¬ (k : Int) < (s.size : Int) := by omega
      go_enter Tryd.func9, Tryd.ntmps9
      go_wp2_with fail
      refine HR.out.mono ?_
      rintro e w2 ⟨rfl, ho2⟩
      have HO := Lib.hid ho2
      clear ho2 HR
      go_wp2
      go_ret2
      exact ⟨rfl, HO.out⟩
  · rw [if_pos hx]
    obtain ⟨x, hx0⟩ : ∃ x, r.1 = x := ⟨_, rfl⟩
    rw [hx0] at HR hx ⊢
    have hx2 : ¬ (x : Int) = 0 := by omega
    clear hx0
    go_enter Tryd.func9, Tryd.ntmps9
    go_wp2_with fail
    refine HR.out.mono ?_
    rintro e w2 ⟨rfl, ho2⟩
    have HO := Lib.hid ho2
    clear ho2 HR
    go_wp2
    go_ret2
    exact ⟨rfl, HO.out⟩
end Go.Proofs.YtackcgiokkbhdaaDoor
