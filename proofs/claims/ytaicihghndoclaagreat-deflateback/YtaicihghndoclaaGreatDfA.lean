/- Layer 12: pieces in plain words, read back; the shortest block, by the program. -/
import Derived.Test.YtaicihghndoclaaGreatKRa
import Derived.Test.YtaicihghndoclaaGreatKHS
import Derived.Test.YtaicihghndoclaaGreatN2
/- Layers 8 and 12 in plain words: blocks whose tokens reach behind their own beginning are read back; pieces of a text. -/
namespace Go.Proofs.YtaicihghndoclaaGreat
open Go.RowKit

theorem plain_at (B : List UInt8) (hB : Bits B) (most M : Int) (ts : List Tk) (out want : List UInt8) (a : Nat) (hx : expandF M ts out = (out ++ want, 0)) (hm : allB ts = true) (hs : Stand B a (encB fixA fixB ts)) (h : a + (encB fixA fixB ts).length ≤ B.length) (hw : (out.length + want.length : Int) ≤ most) :
    mBlock B most 1 a out = (0, a + (encB fixA fixB ts).length, out ++ want) := by
  have hf := fits_fix ts hm
  have hx2 := expand_pre M most [] ts out (out ++ want) hx (by rw [List.length_append]; simp only [List.length_nil]; omega)
  rw [List.nil_append, List.nil_append] at hx2
  unfold mBlock
  rw [if_neg (by decide), if_pos rfl]
  exact toks_read B hB fixA fixB low_fixA low_fixB fu_fixA fu_fixB hf.1 most most ts out _ _ a hf.2 hx2 hs h (by omega) (by rw [List.length_append]; omega)
theorem own_at (B : List UInt8) (hB : Bits B) (most M : Int) (ts : List Tk) (out want : List UInt8) (a : Nat) (hx : expandF M ts out = (out ++ want, 0)) (hm : allB ts = true) (hu : unF (ownR (talF ts)) [] = (ownA (talF ts) ++ ownB (talF ts), 0)) (hr : (ownR (talF ts)).length ≤ 316)
    (hs : Stand B a (hdrB (talF ts) ++ encB (ownA (talF ts)) (ownB (talF ts)) ts)) (h : a + (hdrB (talF ts) ++ encB (ownA (talF ts)) (ownB (talF ts)) ts).length ≤ B.length) (hw : (out.length + want.length : Int) ≤ most) :
    mBlock B most 2 a out = (0, a + (hdrB (talF ts) ++ encB (ownA (talF ts)) (ownB (talF ts)) ts).length, out ++ want) := by
  have hL := talF_length ts
  have hf := fits_own ts hm
  have hx2 := expand_pre M most [] ts out (out ++ want) hx (by rw [List.length_append]; simp only [List.length_nil]; omega)
  rw [List.nil_append, List.nil_append] at hx2
  have hla := ownA_low hL
  have hlb := ownB_low hL
  rw [List.length_append] at h ⊢
  have ho := own_read B hB (talF ts) hL (talF_end ts) hu hr a hs.left (by omega)
  unfold mBlock
  rw [if_neg (by decide), if_neg (by decide), if_pos rfl, ho]
  simp only
  rw [if_neg (by simp)]
  rw [toks_read B hB _ _ hla hlb (kd_full _ hla (kdA hL)) (kd_full _ hlb (kdB hL)) hf.1 most most ts out _ _ (a + (hdrB (talF ts)).length) hf.2 hx2 hs.right (by omega) (by omega) (by rw [List.length_append]; omega), Nat.add_assoc]
/-- A block that says bytes behind those that were said. -/
def PcAt (p : Pc) (out said : List UInt8) : Prop :=
  (p.kind = 0 ∧ p.S.size ≤ 65535 ∧ said = p.S.data.toList) ∨ (p.kind = 1 ∧ allB p.ts = true ∧ ∃ M, expandF M p.ts out = (out ++ said, 0)) ∨ (p.kind = 2 ∧ allB p.ts = true ∧ Packed p.ts ∧ ∃ M, expandF M p.ts out = (out ++ said, 0))
theorem pc_at (B : List UInt8) (hB : Bits B) (most : Int) (bl out said : List UInt8) (p : Pc) (last : Bool) (hp : PcAt p out said) (hs : Stand B 0 (pcBits bl p last)) (h : (pcBits bl p last).length ≤ B.length) (hw : (out.length + said.length : Int) ≤ most) :
    Stand B 0 bl ∧ bl.length + 3 ≤ (pcBits bl p last).length ∧ nm B bl.length 1 = (if last then 1 else 0) ∧ nm B (bl.length + 1) 2 = p.kind ∧ mBlock B most p.kind (bl.length + 3) out = (0, (pcBits bl p last).length, out ++ said) := by
  rcases hp with ⟨hk, h1, rfl⟩ | ⟨hk, h1, M, h2⟩ | ⟨hk, h1, ⟨h3, h4⟩, M, h2⟩
  · have e : pcBits bl p last = storedB bl p.S last := by unfold pcBits; rw [if_pos hk]
    rw [e] at hs h ⊢
    have hr := stored_read B hB most p.S last out bl h1 hs h hw
    have hs0 := hs
    unfold storedB alignB at hs0
    have s0 := hs0.left.left
    have hl : bl.length + 3 ≤ (storedB bl p.S last).length := by
      unfold storedB alignB
      rw [List.length_append, List.length_append, List.length_append, headB_length]
      omega
    have s1 := s0.right
    rw [Nat.zero_add] at s1
    obtain ⟨n1, n2⟩ := head_read B hB bl.length 0 last (by decide) s1 (by omega)
    rw [hk]
    exact ⟨s0.left, hl, n1, n2, hr⟩
  · have e : pcBits bl p last = bl ++ plainB p.ts last := by unfold pcBits; rw [if_neg (by omega), if_pos hk]
    rw [e] at hs h ⊢
    unfold plainB at hs h ⊢
    have s1 := hs.right
    rw [Nat.zero_add] at s1
    rw [List.length_append, List.length_append, headB_length] at h ⊢
    obtain ⟨n1, n2⟩ := head_read B hB bl.length 1 last (by decide) s1.left (by omega)
    have s2 := s1.right
    rw [headB_length] at s2
    rw [hk]
    refine ⟨hs.left, by omega, n1, n2, ?_⟩
    rw [plain_at B hB most M p.ts out said (bl.length + 3) h2 h1 s2 (by omega) hw, Nat.add_assoc]
  · have e : pcBits bl p last = bl ++ ownBits p.ts last := by unfold pcBits; rw [if_neg (by omega), if_neg (by omega)]
    rw [e] at hs h ⊢
    unfold ownBits at hs h ⊢
    rw [List.append_assoc] at hs h ⊢
    have s1 := hs.right
    rw [Nat.zero_add] at s1
    rw [List.length_append, List.length_append, headB_length] at h ⊢
    obtain ⟨n1, n2⟩ := head_read B hB bl.length 2 last (by decide) s1.left (by omega)
    have s2 := s1.right
    rw [headB_length] at s2
    rw [hk]
    refine ⟨hs.left, by omega, n1, n2, ?_⟩
    rw [own_at B hB most M p.ts out said (bl.length + 3) h2 h1 h3 h4 s2 (by omega) hw, Nat.add_assoc]
theorem Reads.on {bl out : List UInt8} {ks : List Nat} (h : Reads bl out ks) (p : Pc) (said : List UInt8) (hp : PcAt p out said) : Reads (pcBits bl p false) (out ++ said) (ks ++ [p.kind]) := by
  intro B most hB hs hl hw
  rw [List.length_append] at hw
  obtain ⟨s0, g1, g2, g3, g4⟩ := pc_at B hB most bl out said p false hp hs hl (by omega)
  obtain ⟨f, hf, e⟩ := h B most hB s0 (by omega) (by omega)
  cases f with
  | zero => omega
  | succ f =>
    refine ⟨f, by omega, ?_⟩
    rw [e, mStr_one B most f bl.length out ks p.kind _ _ false (by omega) g2 g3 g4]
    rfl
theorem Reads.end_ {bl out : List UInt8} {ks : List Nat} (h : Reads bl out ks) (p : Pc) (said : List UInt8) (hp : PcAt p out said) (B : List UInt8) (most : Int) (hB : Bits B) (hs : Stand B 0 (pcBits bl p true)) (hl : (pcBits bl p true).length ≤ B.length) (hw : ((out ++ said).length : Int) ≤ most) :
    mStream B most = (0, (pcBits bl p true).length, out ++ said, ks ++ [p.kind]) := by
  rw [List.length_append] at hw
  obtain ⟨s0, g1, g2, g3, g4⟩ := pc_at B hB most bl out said p true hp hs hl (by omega)
  obtain ⟨f, hf, e⟩ := h B most hB s0 (by omega) (by omega)
  cases f with
  | zero => omega
  | succ f =>
    rw [e, mStr_one B most f bl.length out ks p.kind _ _ true (by omega) g2 g3 g4]
    rfl
/- Layer 12 in plain words: what pieces are written, and how long they are. -/
theorem storedB_len (bl : List UInt8) (S : ByteArray) (last : Bool) : (storedB bl S last).length = (bl.length + 10) / 8 * 8 + 32 + 8 * S.size := by
  unfold storedB
  rw [List.length_append, alignB_length, List.length_append, headB_length, List.length_append, bitsOf_length, bitsOf_length, List.length_append, bytesOf_length, bytesOf_length]
  have e : S.data.toList.length = S.size := rfl
  omega
/-- How many bits a block of bytes takes, behind L bits. -/
def stN (L n : Nat) : Nat := (L % 8 + 10) / 8 * 8 + 32 + 8 * n - L % 8
theorem storedB_more (bl : List UInt8) (S : ByteArray) (last : Bool) : (storedB bl S last).length = bl.length + stN bl.length S.size := by
  rw [storedB_len]
  unfold stN
  omega
theorem stN_le (L n : Nat) : stN L n ≤ 8 * n + 42 := by unfold stN; omega
/-- Which kind of block takes the fewest bits. -/
def kindF (L n : Nat) (ts : List Tk) : Nat := if plainN ts ≤ stN L n ∧ plainN ts ≤ ownN ts then 1 else if ownN ts ≤ stN L n ∧ ownN ts ≤ plainN ts then 2 else 0
/-- The bits behind the shortest block. -/
def shortB (bl : List UInt8) (S : ByteArray) (ts : List Tk) (last : Bool) : List UInt8 := pcBits bl ⟨kindF bl.length S.size ts, S, ts⟩ last
theorem shortB_len (bl : List UInt8) (S : ByteArray) (ts : List Tk) (last : Bool) (hm : allB ts = true) : (shortB bl S ts last).length ≤ bl.length + (8 * S.size + 42) := by
  have h0 := stN_le bl.length S.size
  unfold shortB pcBits kindF
  simp only
  by_cases h1 : plainN ts ≤ stN bl.length S.size ∧ plainN ts ≤ ownN ts
  · rw [if_pos h1, if_neg (by decide), if_pos rfl, List.length_append, plain_size ts last hm]
    omega
  · rw [if_neg h1]
    by_cases h2 : ownN ts ≤ stN bl.length S.size ∧ ownN ts ≤ plainN ts
    · rw [if_pos h2, if_neg (by decide), if_neg (by decide), List.length_append, own_size ts last hm]
      omega
    · rw [if_neg h2, if_pos rfl, storedB_more]
      omega
/-- The bits of all pieces. -/
def packL : Nat → List UInt8 → ByteArray → List Tk → List UInt8
  | 0, bl, _, _ => bl
  | k + 1, bl, S, ts => if 16384 < ts.length then packL k (shortB bl (S.extract 0 (sumT (ts.take 16384)).toNat) (ts.take 16384) false) (S.extract (sumT (ts.take 16384)).toNat S.size) (ts.drop 16384) else shortB bl S ts true

theorem expandF_split (M : Int) : ∀ (a b : List Tk) (out want : List UInt8), expandF M (a ++ b) out = (want, 0) → ∃ mid, expandF M a out = (mid, 0) ∧ expandF M b mid = (want, 0)
  | [], b, out, want, h => ⟨out, rfl, h⟩
  | t :: a, b, out, want, h => by
    rw [List.cons_append, expandF] at h
    split at h
    · simp at h
    · rename_i h1
      split at h
      · simp at h
      · rename_i h2
        split at h
        · simp at h
        · rename_i h3
          obtain ⟨mid, k1, k2⟩ := expandF_split M a b _ want h
          refine ⟨mid, ?_, k2⟩
          rw [expandF, if_neg h1, if_neg h2, if_neg h3]
          exact k1
theorem copyF_ext (k : Nat) : ∀ (n : Nat) (l : List UInt8), ∃ x, copyF k n l = l ++ x
  | 0, l => ⟨[], by rw [copyF, List.append_nil]⟩
  | n + 1, l => by
    obtain ⟨x, hx⟩ := copyF_ext k n (l ++ [l.getD (l.length - k) 0])
    exact ⟨_, by rw [copyF, hx, List.append_assoc]⟩
theorem expandF_ext (M : Int) : ∀ (a : List Tk) (out mid : List UInt8), expandF M a out = (mid, 0) → (∃ x, mid = out ++ x) ∧ (mid.length : Int) = out.length + sumT a
  | [], out, mid, h => by
    rw [expandF] at h
    obtain ⟨rfl, _⟩ : out = mid ∧ True := by simpa using h
    exact ⟨⟨[], by rw [List.append_nil]⟩, by rw [sumT]; omega⟩
  | t :: a, out, mid, h => by
    obtain ⟨k1, k2, k3⟩ := expandF_cons M t a out mid h
    obtain ⟨⟨x, hx⟩, k4⟩ := expandF_ext M a _ mid k3
    have h5 := lay_length t out k1
    have hl : ∃ y, layF t out = out ++ y := by
      unfold layF
      split
      · exact ⟨_, rfl⟩
      · exact copyF_ext _ _ _
    obtain ⟨y, hy⟩ := hl
    refine ⟨⟨y ++ x, by rw [hx, hy, List.append_assoc]⟩, ?_⟩
    rw [sumT, k4, h5]
    have hs : sayN t = max 1 (min t.n 258) := by
      unfold sayN
      rcases may_cases t k1 with ⟨g1, _⟩ | ⟨g1, g2, _, _⟩
      · rw [if_pos g1]; omega
      · rw [if_neg (by omega)]; omega
    omega

/-- Where pieces stand: bits so far, bytes said, bytes and tokens that are left, kinds so far. -/
structure PkAt (S0 : ByteArray) (bl out : List UInt8) (S : ByteArray) (ts : List Tk) (ks : List Nat) : Prop where
  bits : Bits bl
  reads : Reads bl out ks
  say : out ++ S.data.toList = S0.data.toList
  exp : expandF S0.size ts out = (S0.data.toList, 0)
  len : bl.length ≤ 8 * out.length + 42 * ks.length
  few : 16384 * ks.length + ts.length ≤ S0.size
theorem PkAt.all {S0 : ByteArray} {bl out : List UInt8} {S : ByteArray} {ts : List Tk} {ks : List Nat} (h : PkAt S0 bl out S ts ks) : allB ts = true := expandF_all _ _ _ _ h.exp
theorem PkAt.size {S0 : ByteArray} {bl out : List UInt8} {S : ByteArray} {ts : List Tk} {ks : List Nat} (h : PkAt S0 bl out S ts ks) : out.length + S.size = S0.size := by
  have := congrArg List.length h.say
  rw [List.length_append] at this
  exact this
/-- The first tokens say a part of the text. -/
theorem PkAt.part {S0 : ByteArray} {bl out : List UInt8} {S : ByteArray} {ts : List Tk} {ks : List Nat} (h : PkAt S0 bl out S ts ks) (k : Nat) (n : Nat) (hn : n = (sumT (ts.take k)).toNat) :
    0 ≤ sumT (ts.take k) ∧ n ≤ S.size ∧ expandF S0.size (ts.take k) out = (out ++ (S.extract 0 n).data.toList, 0) ∧ expandF S0.size (ts.drop k) (out ++ (S.extract 0 n).data.toList) = (S0.data.toList, 0) ∧ (S.extract 0 n).data.toList ++ (S.extract n S.size).data.toList = S.data.toList ∧ (S.extract 0 n).size = n := by
  have h0 := h.exp
  rw [← List.take_append_drop k ts] at h0
  obtain ⟨mid, k1, k2⟩ := expandF_split _ _ _ _ _ h0
  obtain ⟨⟨x, hx⟩, k3⟩ := expandF_ext _ _ _ _ k1
  obtain ⟨⟨y, hy⟩, k4⟩ := expandF_ext _ _ _ _ k2
  rw [hx, List.length_append] at k3
  have e1 : x ++ y = S.data.toList := by
    have := h.say
    rw [hy, hx, List.append_assoc] at this
    exact (List.append_cancel_left this).symm
  have e2 : x.length = n := by omega
  have e3 : n ≤ S.size := by
    have := congrArg List.length e1
    rw [List.length_append] at this
    have e : S.data.toList.length = S.size := rfl
    omega
  have g1 : (S.extract 0 n).data.toList = x := by
    rw [show (S.extract 0 n).data.toList = S.data.toList.take n by simp [List.extract_eq_take_drop], ← e1, ← e2, List.take_left]
  have g2 : (S.extract n S.size).data.toList = y := by
    rw [show (S.extract n S.size).data.toList = S.data.toList.drop n by
      simp only [ByteArray.data_extract, Array.toList_extract, List.extract_eq_take_drop]
      exact List.take_of_length_le (by rw [List.length_drop]; exact Nat.le_refl _), ← e1, ← e2, List.drop_left]
  have g3 : (S.extract 0 n).size = n := by
    show (S.extract 0 n).data.toList.length = n
    rw [g1, e2]
  rw [g1, g2]
  refine ⟨by omega, e3, ?_, ?_, e1, g3⟩
  · rw [k1, hx]
  · rw [← hx, k2]
theorem shortB_bits (bl : List UInt8) (S : ByteArray) (ts : List Tk) (last : Bool) (h : Bits bl) : Bits (shortB bl S ts last) := pc_isbits _ _ _ h
theorem kindF_le (L n : Nat) (ts : List Tk) : kindF L n ts = 0 ∨ kindF L n ts = 1 ∨ kindF L n ts = 2 := by
  unfold kindF
  split
  · exact .inr (.inl rfl)
  · split
    · exact .inr (.inr rfl)
    · exact .inl rfl
theorem PkAt.pc {S0 : ByteArray} {out : List UInt8} (L : Nat) (S : ByteArray) (ts : List Tk) (hS : S.size ≤ 65535) (he : expandF S0.size ts out = (out ++ S.data.toList, 0)) (hp : kindF L S.size ts = 2 → Packed ts) : PcAt ⟨kindF L S.size ts, S, ts⟩ out S.data.toList := by
  have hm := expandF_all _ _ _ _ he
  rcases kindF_le L S.size ts with e | e | e
  · exact .inl ⟨e, hS, rfl⟩
  · exact .inr (.inl ⟨e, hm, _, he⟩)
  · exact .inr (.inr ⟨e, hm, hp e, _, he⟩)
theorem PkAt.start (S0 : ByteArray) (ts : List Tk) (he : expandF S0.size ts [] = (S0.data.toList, 0)) (hl : ts.length ≤ S0.size) : PkAt S0 [] [] S0 ts [] :=
  ⟨fun x hx => (by cases hx), Reads.nil, rfl, he, by simp, by simpa using hl⟩
theorem PkAt.next {S0 : ByteArray} {bl out : List UInt8} {S : ByteArray} {ts : List Tk} {ks : List Nat} (h : PkAt S0 bl out S ts ks) (h0 : S0.size ≤ 65535) (hl : 16384 < ts.length) (n : Nat) (hn : n = (sumT (ts.take 16384)).toNat)
    (hp : kindF bl.length (S.extract 0 n).size (ts.take 16384) = 2 → Packed (ts.take 16384)) :
    PkAt S0 (shortB bl (S.extract 0 n) (ts.take 16384) false) (out ++ (S.extract 0 n).data.toList) (S.extract n S.size) (ts.drop 16384) (ks ++ [kindF bl.length (S.extract 0 n).size (ts.take 16384)]) := by
  obtain ⟨g0, g1, g2, g3, g4, g5⟩ := h.part 16384 n hn
  have hs := h.size
  have h6 := shortB_len bl (S.extract 0 n) (ts.take 16384) false (expandF_all _ _ _ _ g2)
  have hb := h.len
  have hf := h.few
  have e : (S.extract 0 n).data.toList.length = (S.extract 0 n).size := rfl
  refine ⟨shortB_bits _ _ _ _ h.bits, h.reads.on _ _ (PkAt.pc _ _ _ (by omega) g2 hp), ?_, g3, ?_, ?_⟩
  · rw [List.append_assoc, g4, h.say]
  · rw [List.length_append, List.length_append, e, List.length_cons, List.length_nil]
    omega
  · rw [List.length_append, List.length_drop, List.length_cons, List.length_nil]
    omega
/-- What bits say, whole: the bytes; how long they are. -/
def PkOut (S0 : ByteArray) (R : List UInt8) (ks : List Nat) : Prop := Bits R ∧ Fin11 R S0.data.toList ks ∧ R.length ≤ 8 * S0.size + 168 ∧ ks.length ≤ 2
theorem PkAt.last {S0 : ByteArray} {bl out : List UInt8} {S : ByteArray} {ts : List Tk} {ks : List Nat} (h : PkAt S0 bl out S ts ks) (h0 : S0.size ≤ 32767) (hp : kindF bl.length S.size ts = 2 → Packed ts) :
    PkOut S0 (shortB bl S ts true) (ks ++ [kindF bl.length S.size ts]) := by
  have hs := h.size
  have h6 := shortB_len bl S ts true h.all
  have hb := h.len
  have hf := h.few
  refine ⟨shortB_bits _ _ _ _ h.bits, fun B most hB hst hl hw => ?_, by omega, by rw [List.length_append, List.length_cons, List.length_nil]; omega⟩
  rw [← h.say] at hw ⊢
  exact h.reads.end_ _ _ (PkAt.pc (S0 := S0) _ _ _ (by omega) (by rw [h.say]; exact h.exp) hp) B most hB hst hl hw
theorem stored_out (S0 : ByteArray) (h0 : S0.size ≤ 65535) : PkOut S0 (storedB [] S0 true) [0] := by
  refine ⟨pc_isbits [] ⟨0, S0, []⟩ true (fun x hx => by cases hx), fun B most hB hst hl hw => ?_, by rw [storedB_len, List.length_nil]; omega, by decide⟩
  exact Reads.nil.last ⟨0, S0, []⟩ S0.data.toList (.inl ⟨rfl, h0, rfl⟩) B most hB hst hl hw
theorem PkOut.text {S0 : ByteArray} {R : List UInt8} {ks : List Nat} (h : PkOut S0 R ks) {t : ByteArray} (ht : TextIs R t) : mStream (bitsOf t.data.toList) (S0.size : Nat) = (0, R.length, S0.data.toList, ks) := by
  refine h.2.1 _ _ (bitsOf_bits _) (Stand.of_le h.1 ht.2) ?_ (Int.le_refl _)
  have e : t.data.toList.length = t.size := rfl
  rw [bitsOf_length, e, ht.1]
  omega
/-- A text is told by its bits. -/
theorem TextIs.one {R : List UInt8} {t u : ByteArray} (ht : TextIs R t) (hu : TextIs R u) : t = u := by
  have e : t.data.toList = u.data.toList := le_inj _ _ (by
    show t.size = u.size
    rw [ht.1, hu.1]) (by rw [ht.2, hu.2])
  exact ByteArray.ext (Array.toList_inj.1 e)
end Go.Proofs.YtaicihghndoclaaGreat

/- Layer 12, the program: blocks of bytes, how many bits they take, the shortest block, all pieces. -/
namespace Go.Proofs.YtaicihghndoclaaGreat
open Go.RowKit

set_option maxHeartbeats 2000000 in
theorem wstored (b : Nat) (s : ByteArray) (last : Bool) (F : Nat → Prop) (bl : List UInt8) (w : World) (h : Wf w b F bl) (hbl : bl.length ≤ 100000000) (hs : s.size ≤ 65535) :
    Calls Tryz.prog 18 #[.pointer (some ⟨b, 0, none⟩), .string s, .bool last] w (PutW w b F (storedB bl s last)) := by
  have HS := Lib.hid (stored b s last F bl w h hbl hs)
  obtain ⟨n, hn⟩ : ∃ n, s.size = n := ⟨_, rfl⟩
  rw [hn] at hs
  have hlt : ¬ (65535 : Int) < (n : Int) := by omega
  clear h
  generalize storedB bl s last = R at HS ⊢
  go_enter Tryz.func18, Tryz.ntmps18
  go_wp2_with fail
  go_loopg [1] 0 (fun gk v wx => v = .string s ∧ wx = w)
  case atStart => exact ⟨rfl, rfl⟩
  case round =>
    obtain ⟨rfl, rfl⟩ := hrel
    go_wp2_with fail
    refine HS.out.mono ?_
    rintro e w1 ⟨rfl, h1⟩
    have H1 := Lib.hid h1
    clear h1 HS
    go_wp2
    go_end0
    exact ⟨rfl, H1.out⟩

set_option maxHeartbeats 2000000 in
theorem ssize (b : Nat) (s : ByteArray) (F : Nat → Prop) (bl : List UInt8) (w : World) (h : Wf w b F bl) (hbl : bl.length ≤ 100000000) (hs : s.size ≤ 65535) :
    Calls Tryz.prog 37 #[.pointer (some ⟨b, 0, none⟩), .string s] w fun e w' => e = .returned (.int .i64 (stN bl.length s.size : Nat)) ∧ Only (fun _ => False) w w' := by
  have HL := Lib.hid (wlen b F bl w h)
  obtain ⟨L, hL⟩ : ∃ L, bl.length = L := ⟨_, rfl⟩
  obtain ⟨r, hr⟩ : ∃ r, L % 8 = r := ⟨_, rfl⟩
  have hr8 : r < 8 := by omega
  rw [hL] at HL hbl ⊢
  have hm : (L : Int) % 8 = (r : Int) := by omega
  have hm2 : Int.tmod (L : Int) 8 = (r : Int) := by rw [Int.tmod_eq_emod_of_nonneg (by omega)]; exact hm
  obtain ⟨z, hz⟩ : ∃ z, (r + 10) / 8 * 8 + 32 + 8 * s.size = z := ⟨_, rfl⟩
  have hst : stN L s.size = z - r := by unfold stN; rw [hr, hz]
  have hzr : z ≤ 1000000 ∧ r ≤ z := by omega
  have HW : Hid (∀ w1 w2 : World, Only (fun _ => False) w w1 → Wf w1 w.heap.size (fun j => j = w.heap.size) [] → Calls Tryz.prog 60 #[.pointer (some ⟨w.heap.size, 0, none⟩), .int .u32 0, .int .i64 r] w1 (PutW w1 w.heap.size (fun j => j = w.heap.size) ([] ++ nb 0 r))) := Lib.hid fun w1 _ _ h1 =>
    wput w.heap.size 0 r _ [] w1 h1 (by simp) (by decide) (by omega)
  have HT : Hid (∀ w1 w2 : World, WfP w1 w.heap.size (fun j => j = w.heap.size) ([] ++ nb 0 r) w2 → Calls Tryz.prog 18 #[.pointer (some ⟨w.heap.size, 0, none⟩), .string s, .bool false] w2 (PutW w2 w.heap.size (fun j => j = w.heap.size ∨ w1.heap.size ≤ j) (storedB ([] ++ nb 0 r) s false))) := Lib.hid fun w1 w2 h2 =>
    wstored w.heap.size s false _ _ w2 h2.wf (by rw [List.nil_append, nb_length]; omega) hs
  have HZ : Hid ((storedB ([] ++ nb 0 r) s false).length = z) := Lib.hid (by rw [storedB_len, List.nil_append, nb_length, hz])
  have HN : Hid (∀ w2 : World, (∃ F2, Wf w2 w.heap.size F2 (storedB ([] ++ nb 0 r) s false)) → Calls Tryz.prog 59 #[.pointer (some ⟨w.heap.size, 0, none⟩)] w2 fun e w' => e = .returned (.int .i64 (z : Nat)) ∧ w2 = w') := Lib.hid fun w2 ⟨F2, h2⟩ => by
    have := wlen w.heap.size F2 _ w2 h2
    rw [HZ.out] at this
    exact this
  have HST := Lib.hid hst
  clear h hst hz hL HZ
  generalize storedB ([] ++ nb 0 r) s false = R at HT HN
  go_enter Tryz.func37, Tryz.ntmps37
  go_wp2_with fail
  refine HL.out.mono ?_
  rintro e _ ⟨rfl, rfl⟩
  go_wp2_with fail
  refine (newWf _).mono ?_
  rintro e w1 ⟨rfl, h1, o1⟩
  have HP := Lib.hid (HW.out w1 w1 o1 h1)
  have HO1 := Lib.hid o1
  clear h1 o1 HW HL
  obtain ⟨g, hg⟩ : ∃ g, w.heap.size = g := ⟨_, rfl⟩
  have HG := Lib.hid hg
  rw [hg] at HP HT HN ⊢
  clear hg
  go_wp2_with fail
  refine HP.out.mono ?_
  rintro e w2 ⟨rfl, h2⟩
  have HB := Lib.hid (HT.out w1 w2 h2)
  have H2 := Lib.hid h2
  clear h2 HP HT
  go_wp2_with fail
  refine HB.out.mono ?_
  rintro e w3 ⟨rfl, h3⟩
  have HC := Lib.hid (HN.out w3 ⟨_, h3.wf⟩)
  have HO3 : Hid (Only (fun _ => False) w w3) := Lib.hid (by
    have o2 := (H2.out.step h3).only
    refine HO1.out.andThen o2 fun j hj => .inr ?_
    rw [hj, HG.out]
    exact Nat.le_refl _)
  clear h3 HB HN H2 HO1
  go_wp2_with fail
  refine HC.out.mono ?_
  rintro e _ ⟨rfl, rfl⟩
  have hsub : (z : Int) - (r : Int) = ((z - r : Nat) : Int) := by omega
  go_wp2
  go_ret
  refine ⟨?_, HO3.out⟩
  rw [HST.out]
  go_num
end Go.Proofs.YtaicihghndoclaaGreat

/- Layer 12, the program: the shortest block; all pieces of a text. -/
namespace Go.Proofs.YtaicihghndoclaaGreat
open Go.RowKit

section
variable {w wx wy : World} {b : Nat} {bl : List UInt8}
theorem no_far {F : Nat → Prop} : ∀ q, (fun _ : Nat => False) q → ¬ F q := fun _ h => h.elim
theorem no_lt (wx : World) : ∀ q, (fun _ : Nat => False) q → q < wx.heap.size := fun _ h => h.elim
theorem nplain (A : Option Addr) (n c : Nat) (ts : List Tk) (last : Bool) (h : LAt w b bl (fun _ => False) wx) (hbl : bl.length ≤ 80000000) (hs : See w w.heap.size A (tks ts)) (hn : ts.length = n) (hb : n ≤ 30000) (hm : allB ts = true) :
    Calls Tryz.prog 38 #[.pointer (some ⟨b, 0, none⟩), .slice A n c, .bool last] wx fun e wy => e = .returned (.int .i64 0) ∧ LAt w b (bl ++ plainB ts last) (fun _ => False) wy := by
  obtain ⟨⟨F, h1, h2, h3⟩, h4⟩ := h
  exact (plain b F bl A n c _ ts last wx h1 (hs.new h4) (see_far hs h4 h2) hn hb hbl hm).mono fun e wy k => by
    obtain ⟨k1, k2, _⟩ := LAt.put h4 h2 no_far (no_lt _) k
    exact ⟨k1, k2⟩
theorem nown (A : Option Addr) (n c : Nat) (ts : List Tk) (last : Bool) (h : LAt w b bl (fun _ => False) wx) (hbl : bl.length ≤ 80000000) (hs : See w w.heap.size A (tks ts)) (hn : ts.length = n) (hb : n ≤ 30000) (hm : allB ts = true) :
    Calls Tryz.prog 39 #[.pointer (some ⟨b, 0, none⟩), .slice A n c, .bool last] wx fun e wy => e = .returned (.int .i64 0) ∧ LAt w b (bl ++ ownBits ts last) (fun _ => False) wy ∧ Packed ts := by
  obtain ⟨⟨F, h1, h2, h3⟩, h4⟩ := h
  exact (own2 b F bl A n c _ ts last wx h1 (hs.new h4) (see_far hs h4 h2) hn hb hbl hm).mono fun e wy k => by
    obtain ⟨k1, k2, _⟩ := LAt.put h4 h2 no_far (no_lt _) k.1
    exact ⟨k1, k2, k.2⟩
theorem nstored (s : ByteArray) (last : Bool) (h : LAt w b bl (fun _ => False) wx) (hbl : bl.length ≤ 80000000) (hs : s.size ≤ 65535) :
    Calls Tryz.prog 18 #[.pointer (some ⟨b, 0, none⟩), .string s, .bool last] wx fun e wy => e = .returned (.tuple #[]) ∧ LAt w b (storedB bl s last) (fun _ => False) wy := by
  obtain ⟨⟨F, h1, h2, h3⟩, h4⟩ := h
  exact (wstored b s last F bl wx h1 (by omega) hs).mono fun e wy k => by
    obtain ⟨_, k2, _⟩ := LAt.put (e := .returned (.int .i64 0)) h4 h2 no_far (no_lt _) ⟨rfl, k.2⟩
    exact ⟨k.1, k2⟩
theorem nsize (s : ByteArray) (h : LAt w b bl (fun _ => False) wx) (hbl : bl.length ≤ 80000000) (hs : s.size ≤ 65535) :
    Calls Tryz.prog 37 #[.pointer (some ⟨b, 0, none⟩), .string s] wx fun e w' => e = .returned (.int .i64 (stN bl.length s.size : Nat)) ∧ Only (fun _ => False) wx w' := by
  obtain ⟨⟨F, h1, h2, h3⟩, h4⟩ := h
  exact ssize b s F bl wx h1 (by omega) hs
end

/-- The least of three numbers. -/
theorem least3 {P : Program} (ts : Array TypeId) (t : TypeId) (x y z q : Nat) (h : min (min x y) z = q) (w : World) : (Builtin.min_ ts t #[.int .i64 x, .int .i64 y, .int .i64 z]).run P w = .ok (.int .i64 (q : Nat)) w := by
  have e : (if (z : Int) < (if (y : Int) < (x : Int) then (y : Int) else x) then (z : Int) else (if (y : Int) < (x : Int) then (y : Int) else x)) = (q : Int) := by
    split <;> split <;> rename_i h1 h2 <;> first | (rw [if_pos (by assumption)] at *; omega) | (rw [if_neg (by assumption)] at *; omega) | omega
  rw [← e]
  simp [Builtin.min_, Builtin.min2]
set_option maxHeartbeats 4000000 in
theorem wshortest {w : World} (b : Nat) (bl : List UInt8) (s : ByteArray) (A : Option Addr) (n c : Nat) (ts : List Tk) (last : Bool) (wx : World) (h : LAt w b bl (fun _ => False) wx) (hbl : bl.length ≤ 80000000) (hs : See w w.heap.size A (tks ts)) (hn : ts.length = n) (hb : n ≤ 30000) (hm : allB ts = true) (hS : s.size ≤ 65535) :
    Calls Tryz.prog 24 #[.pointer (some ⟨b, 0, none⟩), .string s, .slice A n c, .bool last] wx fun e wy => e = .returned (.tuple #[]) ∧ LAt w b (shortB bl s ts last) (fun _ => False) wy ∧ (kindF bl.length s.size ts = 2 → Packed ts) := by
  have HZ := Lib.hid (sizes A n c _ ts wx (hs.new h.only) hn hb hm)
  obtain ⟨P, hP⟩ : ∃ P, plainN ts = P := ⟨_, rfl⟩
  obtain ⟨O, hO⟩ : ∃ O, ownN ts = O := ⟨_, rfl⟩
  obtain ⟨S, hSt⟩ : ∃ S, stN bl.length s.size = S := ⟨_, rfl⟩
  have HS : Hid (∀ w1, Only (fun _ => False) wx w1 → Calls Tryz.prog 37 #[.pointer (some ⟨b, 0, none⟩), .string s] w1 fun e w' => e = .returned (.int .i64 (S : Nat)) ∧ Only (fun _ => False) w1 w') := Lib.hid fun w1 o => by
    rw [← hSt]
    exact nsize s (h.new o) hbl hS
  have HK1 : Hid (P ≤ S ∧ P ≤ O → kindF bl.length s.size ts = 1) := Lib.hid fun g => by
    unfold kindF
    rw [hP, hO, hSt, if_pos g]
  have HK2 : Hid (¬ (P ≤ S ∧ P ≤ O) → O ≤ S ∧ O ≤ P → kindF bl.length s.size ts = 2) := Lib.hid fun g g2 => by
    unfold kindF
    rw [hP, hO, hSt, if_neg g, if_pos g2]
  have HK0 : Hid (¬ (P ≤ S ∧ P ≤ O) → ¬ (O ≤ S ∧ O ≤ P) → kindF bl.length s.size ts = 0) := Lib.hid fun g g2 => by
    unfold kindF
    rw [hP, hO, hSt, if_neg g, if_neg g2]
  have HC1 : Hid (∀ w1, Only (fun _ => False) wx w1 → Calls Tryz.prog 38 #[.pointer (some ⟨b, 0, none⟩), .slice A n c, .bool last] w1 fun e wy => e = .returned (.int .i64 0) ∧ LAt w b (bl ++ plainB ts last) (fun _ => False) wy) := Lib.hid fun w1 o => nplain A n c ts last (h.new o) hbl hs hn hb hm
  have HC2 : Hid (∀ w1, Only (fun _ => False) wx w1 → Calls Tryz.prog 39 #[.pointer (some ⟨b, 0, none⟩), .slice A n c, .bool last] w1 fun e wy => e = .returned (.int .i64 0) ∧ LAt w b (bl ++ ownBits ts last) (fun _ => False) wy ∧ Packed ts) := Lib.hid fun w1 o => nown A n c ts last (h.new o) hbl hs hn hb hm
  have HC0 : Hid (∀ w1, Only (fun _ => False) wx w1 → Calls Tryz.prog 18 #[.pointer (some ⟨b, 0, none⟩), .string s, .bool last] w1 fun e wy => e = .returned (.tuple #[]) ∧ LAt w b (storedB bl s last) (fun _ => False) wy) := Lib.hid fun w1 o => nstored s last (h.new o) hbl hS
  have HE : Hid (∀ k, kindF bl.length s.size ts = k → shortB bl s ts last = if k = 0 then storedB bl s last else if k = 1 then bl ++ plainB ts last else bl ++ ownBits ts last) := Lib.hid fun k hk => by
    unfold shortB
    rw [hk]
    rfl
  rw [hP, hO] at HZ
  clear h hs hn hm hP hO hSt
  go_enter Tryz.func24, Tryz.ntmps24
  go_wp2_with fail
  refine HZ.out.mono ?_
  rintro e w1 ⟨rfl, o1⟩
  have HB := Lib.hid (HS.out w1 o1)
  have HO1 := Lib.hid o1
  clear o1 HZ HS
  go_wp2_with fail
  refine HB.out.mono ?_
  rintro e w2 ⟨rfl, o2⟩
  have HO2 := Lib.hid (HO1.out.trans o2)
  clear o2 HB HO1
  by_cases g1 : P ≤ S ∧ P ≤ O
  · have em := least3 (P := Tryz.prog) #[3, 3, 3] 3 S P O P (by omega)
    have HK := Lib.hid (HK1.out g1)
    have HC := Lib.hid (HC1.out w2 HO2.out)
    clear HC1 HC2 HC0 HK1 HK2 HK0 HO2 g1
    go_wp2_with fail
    refine HC.out.mono ?_
    rintro e w3 ⟨rfl, h3⟩
    have H3 := Lib.hid h3
    clear h3 HC
    go_wp2
    go_end0
    refine ⟨rfl, ?_, fun e => ?_⟩
    · rw [HE.out 1 HK.out]
      exact H3.out
    · have := HK.out
      omega
  · by_cases g2 : O ≤ S ∧ O ≤ P
    · have em := least3 (P := Tryz.prog) #[3, 3, 3] 3 S P O O (by omega)
      have e3 : ¬ (O : Int) = (P : Int) := by omega
      have HK := Lib.hid (HK2.out g1 g2)
      have HC := Lib.hid (HC2.out w2 HO2.out)
      clear HC1 HC2 HC0 HK1 HK2 HK0 HO2 g1 g2
      go_wp2_with fail
      refine HC.out.mono ?_
      rintro e w3 ⟨rfl, h3, hp⟩
      have H3 := Lib.hid h3
      have HP := Lib.hid hp
      clear h3 HC hp
      go_wp2
      go_end0
      refine ⟨rfl, ?_, fun _ => HP.out⟩
      rw [HE.out 2 HK.out]
      exact H3.out
    · have em := least3 (P := Tryz.prog) #[3, 3, 3] 3 S P O S (by omega)
      have e3 : ¬ (S : Int) = (P : Int) := by omega
      have e4 : ¬ (S : Int) = (O : Int) := by omega
      have HK := Lib.hid (HK0.out g1 g2)
      have HC := Lib.hid (HC0.out w2 HO2.out)
      clear HC1 HC2 HC0 HK1 HK2 HK0 HO2 g1 g2
      go_wp2_with fail
      refine HC.out.mono ?_
      rintro e w3 ⟨rfl, h3⟩
      have H3 := Lib.hid h3
      clear h3 HC
      go_wp2
      go_end0
      refine ⟨rfl, ?_, fun e => ?_⟩
      · rw [HE.out 0 HK.out]
        exact H3.out
      · have := HK.out
        omega
end Go.Proofs.YtaicihghndoclaaGreat
