/- Layer 12, the program: streams, the best one, how long they may be; the awake check. -/
import Derived.Test.YtaicihghndoclaaGreatDfA
/- Layer 12, the program: streams of one text. -/
namespace Go.Proofs.YtaicihghndoclaaGreat
open Go.RowKit

theorem See.sub {w : World} {B : Nat} {A : Option Addr} {vs us : List Value} (h : See w B A vs) (hu : ∀ (i : Nat) (v : Value), us[i]? = some v → vs[i]? = some v) : See w B A us := fun i v hv => h i v (hu i v hv)
theorem tks_take (k : Nat) : ∀ (ts : List Tk) (i : Nat) (v : Value), (tks (ts.take k))[i]? = some v → (tks ts)[i]? = some v := fun ts i v h => by
  have e : tks ts = tks (ts.take k) ++ tks (ts.drop k) := by
    unfold tks
    rw [← List.flatMap_append, List.take_append_drop]
  rw [e, List.getElem?_append_left (by obtain ⟨h1, _⟩ := List.getElem?_eq_some_iff.1 h; exact h1)]
  exact h
theorem tks_drop (ts : List Tk) (k : Nat) (hk : k ≤ ts.length) (i : Nat) : (tks (ts.drop k))[i]? = (tks ts)[k * 3 + i]? := by
  have e : tks ts = tks (ts.take k) ++ tks (ts.drop k) := by
    unfold tks
    rw [← List.flatMap_append, List.take_append_drop]
  have hl : (tks (ts.take k)).length = k * 3 := by rw [tks_length, List.length_take, Nat.min_eq_left hk]
  rw [e, List.getElem?_append_right (by omega), hl, Nat.add_sub_cancel_left]
theorem See.drop {w : World} {B b off : Nat} {ts : List Tk} (h : See w B (some ⟨b, off, none⟩) (tks ts)) (k : Nat) (hk : k ≤ ts.length) : See w B (some ⟨b, off + k * 3, none⟩) (tks (ts.drop k)) := fun i v hv => by
  rw [tks_drop ts k hk i] at hv
  obtain ⟨b1, o1, e1, e2, e3⟩ := h _ _ hv
  obtain ⟨rfl, rfl⟩ : b1 = b ∧ o1 = off := by
    have := Option.some.inj e1
    simp only [Addr.mk.injEq] at this
    exact ⟨this.1.symm, this.2.1.symm⟩
  refine ⟨_, _, rfl, e2, ?_⟩
  rw [Nat.add_assoc]
  exact e3
theorem See.some {w : World} {B : Nat} {A : Option Addr} {ts : List Tk} (h : See w B A (tks ts)) (hl : 0 < ts.length) : ∃ b off, A = .some ⟨b, off, none⟩ := by
  obtain ⟨t, r, rfl⟩ := List.exists_cons_of_ne_nil (List.ne_nil_of_length_pos hl)
  obtain ⟨b, off, e, _⟩ := h.token 0 t rfl
  exact ⟨b, off, e⟩

/-- What a stream is answered: the text of bits. -/
def TextP (R : List UInt8) (w : World) (e : Ending) (w' : World) : Prop := ∃ t, e = .returned (.string t) ∧ TextIs R t ∧ Only (fun _ => False) w w'
theorem ltext {w wx : World} {b : Nat} {R : List UInt8} (h : LAt w b R (fun _ => False) wx) : Calls Tryz.prog 19 #[.pointer (some ⟨b, 0, none⟩)] wx (TextP R w) := by
  obtain ⟨⟨F, h1, h2, h3⟩, h4⟩ := h
  refine (wtext b F R wx h1).mono ?_
  rintro e _ ⟨⟨t, rfl, ht⟩, rfl⟩
  exact ⟨t, rfl, ht, h4⟩
theorem lnew (w : World) : Calls Tryz.prog 17 #[] w fun e w' => e = .returned (.pointer (some ⟨w.heap.size, 0, none⟩)) ∧ LAt w w.heap.size [] (fun _ => False) w' := by
  refine (newWf w).mono ?_
  rintro e w' ⟨rfl, h1, h2⟩
  exact ⟨rfl, ⟨_, h1, fun q hq => Nat.le_of_eq hq.symm, no_far⟩, h2⟩

set_option maxHeartbeats 2000000 in
theorem storedStream (s : ByteArray) (w : World) (hs : s.size ≤ 65535) : Calls Tryz.prog 12 #[.string s] w (TextP (storedB [] s true) w) := by
  go_enter Tryz.func12, Tryz.ntmps12
  go_wp2_with fail
  refine (lnew w).mono ?_
  rintro e w1 ⟨rfl, h1⟩
  have HS := Lib.hid (nstored s true h1 (by simp) hs)
  obtain ⟨g, hg⟩ : ∃ g, w.heap.size = g := ⟨_, rfl⟩
  rw [hg] at HS ⊢
  clear h1 hg
  go_wp2_with fail
  refine HS.out.mono ?_
  rintro e w2 ⟨rfl, h2⟩
  have HT := Lib.hid (ltext h2)
  clear h2 HS
  go_wp2_with fail
  refine HT.out.mono ?_
  rintro e w3 ⟨t, rfl, h3⟩
  have H3 := Lib.hid h3
  clear h3 HT
  go_wp2
  go_ret
  exact ⟨t, rfl, H3.out⟩

/-- What the packed stream is answered: the text of the pieces' bits, which say all bytes. -/
def PackP (s : ByteArray) (ts : List Tk) (w : World) (e : Ending) (w' : World) : Prop := TextP (packL 3 [] s ts) w e w' ∧ ∃ ks, PkOut s (packL 3 [] s ts) ks
set_option maxHeartbeats 8000000 in
theorem packedStream (s : ByteArray) (A : Option Addr) (n c : Nat) (ts : List Tk) (w : World) (hs : See w w.heap.size A (tks ts)) (hn : ts.length = n) (hc : n ≤ c) (hl : n ≤ s.size) (h0 : s.size ≤ 30000) (hx : expandF s.size ts [] = (s.data.toList, 0)) :
    Calls Tryz.prog 14 #[.string s, .slice A n c] w (PackP s ts w) := by
  have HSee := Lib.hid hs
  have HPk := Lib.hid (PkAt.start s ts hx (by omega))
  have HNN := Lib.hid hn
  clear hs hx hn
  go_enter Tryz.func14, Tryz.ntmps14
  go_wp2_with fail
  refine (lnew w).mono ?_
  rintro e w1 ⟨rfl, h1⟩
  have HL1 := Lib.hid h1
  obtain ⟨b, hb⟩ : ∃ b, w.heap.size = b := ⟨_, rfl⟩
  have HB := Lib.hid hb
  rw [hb] at HL1 ⊢
  clear h1 hb
  go_wp2_with fail
  go_loopg [0, 1] n (fun gk u v wx => ∃ (S : ByteArray) (A1 : Option Addr) (c1 : Nat) (ts1 : List Tk) (bl out : List UInt8) (ks : List Nat), u = .string S ∧ v = .slice A1 gk c1 ∧ Hid (See w w.heap.size A1 (tks ts1)) ∧ Hid (ts1.length = gk) ∧ gk ≤ c1 ∧ Hid (LAt w b bl (fun _ => False) wx) ∧ Hid (PkAt s bl out S ts1 ks) ∧ Hid (packL (3 - ks.length) bl S ts1 = packL 3 [] s ts))
  case atStart => exact ⟨s, A, c, ts, [], [], [], rfl, rfl, HSee, HNN, hc, HL1, HPk, Lib.hid rfl⟩
  case round =>
    obtain ⟨S, A1, c1, ts1, bl, out, ks, rfl, rfl, HSe, HN, hc1, HL, HK, HE⟩ := hrel
    clear HSee HPk HL1 HNN
    have hfew : 16384 * ks.length + gk ≤ 30000 := by
      have := HK.out.few
      have := HN.out
      omega
    have hgk : gk ≤ 30000 := by omega
    have HBL : Hid (bl.length ≤ 80000000) := Lib.hid (by
      have h1 := HK.out.len
      have h2 := HK.out.size
      omega)
    have HSS : Hid (S.size ≤ 65535) := Lib.hid (by have := HK.out.size; omega)
    by_cases hlt : 16384 < gk
    · have hlt2 : (16384 : Int) < (gk : Int) := by omega
      obtain ⟨g, off, rfl⟩ := HSe.out.some (by rw [HN.out]; omega)
      have hk0 : ks.length = 0 := by omega
      obtain ⟨m, hm⟩ : ∃ m, (sumT (ts1.take 16384)).toNat = m := ⟨_, rfl⟩
      have hpart := HK.out.part 16384 m hm.symm
      have HZ : Hid (∀ w1, Only (fun _ => False) w w1 → ∀ c2, Calls Tryz.prog 23 #[.slice (some ⟨g, off, none⟩) (16384 : Nat) c2] w1 fun e w' => e = .returned (.int .i64 (m : Nat)) ∧ Only (fun _ => False) w1 w') := Lib.hid fun w1 o c2 => by
        have := size (some ⟨g, off, none⟩) 16384 c2 w.heap.size (ts1.take 16384) w1 ((HSe.out.sub (tks_take 16384 ts1)).new o) (by rw [List.length_take, HN.out]; omega) (by omega)
        rw [show sumT (ts1.take 16384) = (m : Int) by omega] at this
        exact this
      have HZ1 := Lib.hid (HZ.out wr HL.out.only c1)
      have HW : Hid (∀ w1, Only (fun _ => False) wr w1 → Calls Tryz.prog 24 #[.pointer (some ⟨b, 0, none⟩), .string (S.extract 0 m), .slice (some ⟨g, off, none⟩) (16384 : Nat) c1, .bool false] w1 fun e wy => e = .returned (.tuple #[]) ∧ LAt w b (shortB bl (S.extract 0 m) (ts1.take 16384) false) (fun _ => False) wy ∧ (kindF bl.length (S.extract 0 m).size (ts1.take 16384) = 2 → Packed (ts1.take 16384))) := Lib.hid fun w1 o =>
        wshortest b bl (S.extract 0 m) (some ⟨g, off, none⟩) 16384 c1 (ts1.take 16384) false w1 (HL.out.new o) HBL.out (See.sub HSe.out (tks_take 16384 ts1)) (by rw [List.length_take, HN.out]; omega) (by omega) (expandF_all _ _ _ _ hpart.2.2.1) (by rw [hpart.2.2.2.2.2]; have := HSS.out; omega)
      have HNX : Hid (∀ w4 : World, (kindF bl.length (S.extract 0 m).size (ts1.take 16384) = 2 → Packed (ts1.take 16384)) → LAt w b (shortB bl (S.extract 0 m) (ts1.take 16384) false) (fun _ => False) w4 →
          Hid (See w w.heap.size (some ⟨g, off + 16384 * 3, none⟩) (tks (ts1.drop 16384))) ∧ Hid ((ts1.drop 16384).length = gk - 16384) ∧ Hid (PkAt s (shortB bl (S.extract 0 m) (ts1.take 16384) false) (out ++ (S.extract 0 m).data.toList) (S.extract m S.size) (ts1.drop 16384) (ks ++ [kindF bl.length (S.extract 0 m).size (ts1.take 16384)])) ∧ Hid (packL (3 - (ks ++ [kindF bl.length (S.extract 0 m).size (ts1.take 16384)]).length) (shortB bl (S.extract 0 m) (ts1.take 16384) false) (S.extract m S.size) (ts1.drop 16384) = packL 3 [] s ts)) := Lib.hid fun w4 hp h4 => by
        refine ⟨Lib.hid (See.drop HSe.out 16384 (by rw [HN.out]; omega)), Lib.hid (by rw [List.length_drop, HN.out]), Lib.hid (HK.out.next (by omega) (by rw [HN.out]; omega) m hm.symm hp), Lib.hid ?_⟩
        rw [← HE.out, List.length_append, hk0, show (3 - 0) = 2 + 1 from rfl, packL, if_pos (by rw [HN.out]; omega), hm]
        rfl
      have hmS : m ≤ S.size := hpart.2.1
      obtain ⟨Z, hZ⟩ : ∃ Z, S.size = Z := ⟨_, rfl⟩
      rw [hZ] at hmS
      have hZ2 : Z ≤ 65535 := by have := HSS.out; omega
      clear hpart HZ HL HSe HK HE HN HSS HBL
      go_wp2_with fail
      refine HZ1.out.mono ?_
      rintro e w2 ⟨rfl, o2⟩
      have HW1 := Lib.hid (HW.out w2 o2)
      clear o2 HZ1 HW
      go_wp2_with fail
      refine HW1.out.mono ?_
      rintro e w4 ⟨rfl, h4, hp⟩
      have HX := Lib.hid (HNX.out w4 hp h4)
      have HL4 := Lib.hid h4
      clear h4 hp HW1 HNX
      have hc2 : (gk : Int) ≤ (c1 : Int) := by omega
      have hmZ : (m : Int) ≤ (Z : Int) := by omega
      have hc3 : (16384 : Int) ≤ (c1 : Int) := by omega
      have hc4 : (16384 : Int) ≤ (gk : Int) := by omega
      go_wp2_with fail
      go_quiet (fail)
      go_wp2_with fail
      go_roundg (gk - 16384)
      case measure => omega
      case rel =>
        refine ⟨S.extract m S.size, some ⟨g, off + 16384 * 3, none⟩, c1 - 16384, ts1.drop 16384, _, _, _, ?_, ?_, HX.out.1, HX.out.2.1, by omega, Lib.hid (HL4.out.new ((Only.refl _ _).drewN _)), HX.out.2.2.1, HX.out.2.2.2⟩
        · rw [hZ]
        · go_num
    · have hlt2 : ¬ (16384 : Int) < (gk : Int) := by omega
      have HC := Lib.hid (wshortest b bl S A1 gk c1 ts1 true wr HL.out HBL.out HSe.out HN.out hgk HK.out.all HSS.out)
      have HF : Hid (shortB bl S ts1 true = packL 3 [] s ts) := Lib.hid (by
        rw [← HE.out, show 3 - ks.length = (2 - ks.length) + 1 by omega, packL, if_neg (by rw [HN.out]; exact hlt)])
      clear HL HSe
      go_wp2_with fail
      refine HC.out.mono ?_
      rintro e w3 ⟨rfl, h3, hp⟩
      have HT := Lib.hid (ltext h3)
      have HO := Lib.hid (HK.out.last (by omega) hp)
      clear h3 hp HC
      go_wp2_with fail
      refine HT.out.mono ?_
      rintro e w4 ⟨t, rfl, h4⟩
      have H4 := Lib.hid h4
      clear h4 HT
      go_wp2
      go_ret
      rw [HF.out] at H4 HO
      exact ⟨⟨t, rfl, H4.out⟩, _, HO.out⟩
end Go.Proofs.YtaicihghndoclaaGreat

/- Layer 12: Stream, Best, Most, by the program and by the document; streams read back; the awake check. -/
namespace Go.Proofs.YtaicihghndoclaaGreat
open Go.RowKit

theorem toks_all (s : ByteArray) (lvl : Nat) : expandF s.size (toksF s lvl) [] = (s.data.toList, 0) ∧ (toksF s lvl).length ≤ s.size := by
  have h := toks_say (L := s.data.toList) (markAt s.data.toList (wdOf s.size)) lvl s.size (st0 (2 ^ wdOf s.size) s.size) 0 (Nat.le_of_eq (by rw [Nat.zero_add]; rfl)) (Nat.zero_le _) (good0 s.data.toList _) (Nat.le_refl _)
  rw [List.take_zero] at h
  exact ⟨h.1, h.2.1⟩
/-- The bits of the pieces at a level. -/
def packR (s : ByteArray) (lvl : Nat) : List UInt8 := packL 3 [] s (toksF s lvl)
/-- How many bytes bits take. -/
def byN (R : List UInt8) : Nat := (R.length + 7) / 8
/-- The bits of the stream at a level. -/
def outB (s : ByteArray) (lvl : Nat) : List UInt8 := if lvl = 0 then storedB [] s true else if byN (packR s lvl) < s.size + 5 then packR s lvl else storedB [] s true
theorem stored_by (s : ByteArray) : byN (storedB [] s true) = s.size + 5 := by
  unfold byN
  rw [storedB_len, List.length_nil]
  omega
theorem outB_le (s : ByteArray) (lvl : Nat) : byN (outB s lvl) ≤ s.size + 5 := by
  have := stored_by s
  unfold outB
  split
  · omega
  · split <;> omega
def StreamP (s : ByteArray) (lvl : Nat) (w : World) (e : Ending) (w' : World) : Prop :=
  (∃ t, e = .returned (.tuple #[.string t, .int .i64 0]) ∧ TextIs (outB s lvl) t ∧ Only (fun _ => False) w w') ∧ ∃ ks, PkOut s (outB s lvl) ks ∧ (lvl = 0 → ks = [0])
theorem Rs.cap {e : TypeId} {sz : Nat} {w : World} {A : Option Addr} {n c : Nat} {vs : List Value} (h : Rs e sz w A n c vs) : n ≤ c := by
  rcases h.2 with ⟨_, h1, h2, _⟩ | ⟨_, _, _, _, h1, _⟩ <;> omega
set_option maxHeartbeats 4000000 in
theorem stream (s : ByteArray) (lvl : Nat) (w : World) (hs : s.size ≤ 30000) (hl : lvl ≤ 3) : Calls Tryz.prog 7 #[.string s, .int .i64 lvl] w (StreamP s lvl w) := by
  have HS := Lib.hid fun w1 => storedStream s w1 (by omega)
  have HT := Lib.hid fun w1 => tokens s lvl w1 (by omega) hl
  have HA := toks_all s lvl
  have HP : Hid (∀ (A : Option Addr) (c : Nat) (w1 : World), Rs 67 3 w1 A (toksF s lvl).length c (tks (toksF s lvl)) → Calls Tryz.prog 14 #[.string s, .slice A (toksF s lvl).length c] w1 (PackP s (toksF s lvl) w1)) := Lib.hid fun A c w1 h =>
    packedStream s A _ c (toksF s lvl) w1 h.see rfl h.cap HA.2 hs HA.1
  have HST := Lib.hid (stored_out s (by omega))
  have HB := Lib.hid (stored_by s)
  obtain ⟨n, hn⟩ : ∃ n, s.size = n := ⟨_, rfl⟩
  have hn2 : ¬ (4194304 : Int) < (n : Int) := by omega
  have hl0 : ¬ (lvl : Int) < 0 := by omega
  have hl3 : ¬ (3 : Int) < (lvl : Int) := by omega
  have HN := Lib.hid hn
  clear HA hs
  go_enter Tryz.func7, Tryz.ntmps7
  go_wp2_with fail
  refine (HS.out _).mono ?_
  rintro e w1 ⟨t0, rfl, ht0, o1⟩
  have HO1 := Lib.hid o1
  have HT0 := Lib.hid ht0
  have HZ : Hid (t0.size = n + 5) := Lib.hid (by rw [ht0.1, ← HN.out, ← HB.out]; rfl)
  clear o1 ht0 HS
  obtain ⟨z0, hz0⟩ : ∃ z, t0.size = z := ⟨_, rfl⟩
  by_cases h0 : lvl = 0
  · subst h0
    go_wp2
    go_ret2
    have e0 : outB s 0 = storedB [] s true := by unfold outB; rw [if_pos rfl]
    refine ⟨⟨t0, rfl, ?_, HO1.out⟩, [0], ?_, fun _ => rfl⟩
    · rw [e0]
      exact HT0.out
    · rw [e0]
      exact HST.out
  · have hl1 : ¬ (lvl : Int) = 0 := by omega
    have HL0 := Lib.hid h0
    go_wp2_with fail
    refine (HT.out _).mono ?_
    rintro e w2 ⟨A, c, rfl, hr, o2⟩
    have HPP := Lib.hid (HP.out A c w2 hr)
    have HO2 := Lib.hid (HO1.out.trans o2)
    clear hr o2 HP HT HO1
    obtain ⟨k, hk⟩ : ∃ k, (toksF s lvl).length = k := ⟨_, rfl⟩
    rw [hk] at HPP ⊢
    clear hk
    go_wp2_with fail
    refine HPP.out.mono ?_
    rintro e w3 ⟨⟨t1, rfl, ht1, o3⟩, hks⟩
    have HO3 := Lib.hid (HO2.out.trans o3)
    have HT1 := Lib.hid ht1
    have HKS := Lib.hid hks
    clear o3 ht1 hks HPP HO2
    obtain ⟨z1, hz1⟩ : ∃ z, t1.size = z := ⟨_, rfl⟩
    have HC1 : Hid (z1 < z0 → outB s lvl = packR s lvl) := Lib.hid fun g => by
      have e1 : byN (packR s lvl) = z1 := by rw [← hz1, HT1.out.1]; rfl
      have := HZ.out
      have := HN.out
      unfold outB
      rw [if_neg HL0.out, if_pos (by omega)]
    have HC2 : Hid (¬ z1 < z0 → outB s lvl = storedB [] s true) := Lib.hid fun g => by
      have e1 : byN (packR s lvl) = z1 := by rw [← hz1, HT1.out.1]; rfl
      have := HZ.out
      have := HN.out
      unfold outB
      rw [if_neg HL0.out, if_neg (by omega)]
    by_cases hlt : z1 < z0
    · have hlt2 : (z1 : Int) < (z0 : Int) := by omega
      have HE := Lib.hid (HC1.out hlt)
      clear HC1 HC2
      go_wp2
      go_ret2
      obtain ⟨ks, hks⟩ := HKS.out
      refine ⟨⟨t1, rfl, ?_, HO3.out⟩, ks, ?_, fun e => (HL0.out e).elim⟩
      · rw [HE.out]
        exact HT1.out
      · rw [HE.out]
        exact hks
    · have hlt2 : ¬ (z1 : Int) < (z0 : Int) := by omega
      have HE := Lib.hid (HC2.out hlt)
      clear HC1 HC2
      go_wp2
      go_ret2
      refine ⟨⟨t0, rfl, ?_, HO3.out⟩, [0], ?_, fun e => (HL0.out e).elim⟩
      · rw [HE.out]
        exact HT0.out
      · rw [HE.out]
        exact HST.out
theorem stream_no (s : ByteArray) (lvl : Int) (w : World) (hl : lvl < 0 ∨ 3 < lvl) : Calls Tryz.prog 7 #[.string s, .int .i64 lvl] w fun e w' => e = .returned (.tuple #[.string ByteArray.empty, .int .i64 1]) ∧ Only (fun _ => False) w w' := by
  by_cases h : lvl < 0
  · clear hl
    go_enter Tryz.func7, Tryz.ntmps7
    go_wp2
    go_ret2
    exact ⟨rfl, Only.refl _ _⟩
  · have h2 : 3 < lvl := by omega
    clear hl
    go_enter Tryz.func7, Tryz.ntmps7
    go_wp2
    go_ret2
    exact ⟨rfl, Only.refl _ _⟩

/-- The document reads a stream back. -/
theorem sread (s t : ByteArray) (R : List UInt8) (ks : List Nat) (most : Int) (h : PkOut s R ks) (ht : TextIs R t) (hs : s.size ≤ 30000) (hm : s.size ≤ most) (hm2 : most ≤ 100000) (w : World) :
    Calls Tryz.prog 8 #[.string t, .int .i64 most] w fun e w' => ∃ Ak ck, e = .returned (.tuple #[.string s, .int .i64 (t.size : Nat), .slice Ak ks.length ck, .int .i64 0]) ∧ See w' w'.heap.size Ak (ints ks) ∧ Only (fun _ => False) w w' := by
  have h4 := ht.1
  have h5 := h.2.2.1
  have h1 : mStream (bitsOf t.data.toList) most = (0, R.length, s.data.toList, ks) := by
    refine h.2.1 _ _ (bitsOf_bits _) (Stand.of_le h.1 ht.2) ?_ hm
    have e : t.data.toList.length = t.size := rfl
    rw [bitsOf_length, e, ht.1]
    omega
  refine (dstream t most w (by omega) hm2).mono ?_
  rw [h1]
  rintro e w' ⟨Ak, ck, rfl, hs, ho⟩
  have e2 : mKinds (0, R.length, s.data.toList, ks) = ks := rfl
  have e3 : mTaken (0, R.length, s.data.toList, ks) = t.size := by rw [h4]; rfl
  have e4 : mText (0, R.length, s.data.toList, ks) = s := rfl
  rw [e2] at hs
  refine ⟨Ak, ck, ?_, hs, ho⟩
  rw [e2, e3, e4]
  rfl

/-- How many bytes a stream has at most. -/
def dmostF (n : Int) : Int := max 0 (min n 1099511627776) + 5 * (max 0 (min n 1099511627776) / 65535) + 5
theorem most (n : Int) (w : World) : Calls Tryz.prog 11 #[.int .i64 n] w fun e w' => e = .returned (.int .i64 (dmostF n)) ∧ w = w' := by
  obtain ⟨m, hm⟩ : ∃ m : Int, max 0 (min n 1099511627776) = m := ⟨_, rfl⟩
  have h0 : 0 ≤ m ∧ m ≤ 1099511627776 := by omega
  have HE : Hid (dmostF n = m + 5 * (m / 65535) + 5) := Lib.hid (by
    unfold dmostF
    rw [show max 0 (min n 1099511627776) = m by omega])
  obtain ⟨k, hk⟩ : ∃ k : Int, m / 65535 = k := ⟨_, rfl⟩
  have h1 : 0 ≤ k ∧ k ≤ 16777472 := by omega
  have h2 : (0 : Int) ≤ m := h0.1
  have h3 : Int.tdiv m 65535 = k := by rw [Int.tdiv_eq_ediv_of_nonneg h0.1]; exact hk
  rw [hk] at HE
  rw [HE.out]
  clear HE
  go_enter Tryz.func11, Tryz.ntmps11
  go_wp2
  go_ret
  refine ⟨?_, rfl⟩
  go_num
theorem rmost (n : Int) (w : World) : Calls Tryz.prog 9 #[.int .i64 n] w fun e w' => e = .returned (.int .i64 (dmostF n)) ∧ w = w' := by
  obtain ⟨m, hm⟩ : ∃ m : Int, min (max n 0) 1099511627776 = m := ⟨_, rfl⟩
  have h0 : 0 ≤ m ∧ m ≤ 1099511627776 := by omega
  have HE : Hid (dmostF n = m + 5 * (m / 65535) + 5) := Lib.hid (by
    unfold dmostF
    rw [show max 0 (min n 1099511627776) = m by omega])
  obtain ⟨k, hk⟩ : ∃ k : Int, m / 65535 = k := ⟨_, rfl⟩
  have h1 : 0 ≤ k ∧ k ≤ 16777472 := by omega
  have h2 : (0 : Int) ≤ m := h0.1
  have h3 : Int.tdiv m 65535 = k := by rw [Int.tdiv_eq_ediv_of_nonneg h0.1]; exact hk
  rw [hk] at HE
  rw [HE.out]
  clear HE
  go_enter Tryz.func9, Tryz.ntmps9
  go_wp2
  go_ret
  refine ⟨?_, rfl⟩
  go_num
end Go.Proofs.YtaicihghndoclaaGreat

/- Layer 12: Best, by the program; the awake check. -/
namespace Go.Proofs.YtaicihghndoclaaGreat
open Go.RowKit

/-- The level of the best stream of the first k + 1 levels. -/
def bst (s : ByteArray) : Nat → Nat
  | 0 => 0
  | k + 1 => if byN (outB s (k + 1)) < byN (outB s (bst s k)) then k + 1 else bst s k
theorem bst_le (s : ByteArray) : ∀ k, bst s k ≤ k
  | 0 => Nat.le_refl _
  | k + 1 => by
    have := bst_le s k
    unfold bst
    split <;> omega
theorem bst_best (s : ByteArray) : ∀ k j, j ≤ k → byN (outB s (bst s k)) ≤ byN (outB s j) ∧ (j < bst s k → byN (outB s (bst s k)) < byN (outB s j))
  | 0, j, h => by
    obtain rfl : j = 0 := by omega
    exact ⟨Nat.le_refl _, fun h => by unfold bst at h; omega⟩
  | k + 1, j, h => by
    have h1 := bst_le s k
    rw [bst]
    by_cases g : byN (outB s (k + 1)) < byN (outB s (bst s k))
    · rw [if_pos g]
      by_cases e : j = k + 1
      · subst e
        exact ⟨Nat.le_refl _, fun h => by omega⟩
      · have := (bst_best s k j (by omega)).1
        exact ⟨by omega, fun _ => by omega⟩
    · rw [if_neg g]
      by_cases e : j = k + 1
      · subst e
        exact ⟨by omega, fun h => by omega⟩
      · exact bst_best s k j (by omega)
def BestP (s : ByteArray) (w : World) (e : Ending) (w' : World) : Prop :=
  (∃ t, e = .returned (.string t) ∧ TextIs (outB s (bst s 3)) t ∧ Only (fun _ => False) w w') ∧ ∃ ks, PkOut s (outB s (bst s 3)) ks
set_option maxHeartbeats 4000000 in
theorem bestC (s : ByteArray) (w : World) (hs : s.size ≤ 30000) : Calls Tryz.prog 10 #[.string s] w (BestP s w) := by
  have HS : Hid (∀ (k : Nat) (x : Int) (w1 : World), x = (k : Nat) → k ≤ 3 → Calls Tryz.prog 7 #[.string s, .int .i64 x] w1 (StreamP s k w1)) := Lib.hid fun k x w1 hx h => by
    subst hx
    exact stream s k w1 hs h
  go_enter Tryz.func10, Tryz.ntmps10
  go_wp2_with fail
  refine (HS.out 0 0 _ rfl (by decide)).mono ?_
  rintro e w1 ⟨⟨t0, rfl, ht0, o1⟩, ks0, hk0, _⟩
  have H1 : Hid (TextIs (outB s (bst s 0)) t0 ∧ Only (fun _ => False) w w1 ∧ ∃ ks, PkOut s (outB s (bst s 0)) ks) := Lib.hid ⟨ht0, o1, ks0, hk0⟩
  clear ht0 o1 hk0
  go_wp2_with fail
  go_loopg [3, 5] 3 (fun gk u v wx => ∃ (k : Nat) (t : ByteArray), u = .string t ∧ v = .int .i64 (k + 1 : Nat) ∧ k + gk = 3 ∧ Hid (TextIs (outB s (bst s k)) t ∧ Only (fun _ => False) w wx ∧ ∃ ks, PkOut s (outB s (bst s k)) ks))
  case atStart => exact ⟨0, t0, rfl, rfl, rfl, H1⟩
  case round =>
    obtain ⟨k, t, rfl, rfl, hk, HT⟩ := hrel
    by_cases hlt : k < 3
    · have hlt2 : ((k + 1 : Nat) : Int) ≤ 3 := by omega
      have HC := Lib.hid (HS.out (k + 1) (k + 1 : Nat) wr rfl (by omega))
      clear HS H1
      go_wp2_with fail
      refine HC.out.mono ?_
      rintro e w2 ⟨⟨t2, rfl, ht2, o2⟩, ks2, hk2, _⟩
      have HT2 := Lib.hid ht2
      have HK2 := Lib.hid hk2
      have HO2 := Lib.hid (HT.out.2.1.trans o2)
      clear ht2 o2 hk2 HC
      obtain ⟨z, hz⟩ : ∃ z, t.size = z := ⟨_, rfl⟩
      obtain ⟨z2, hz2⟩ : ∃ z, t2.size = z := ⟨_, rfl⟩
      have HZ : Hid (byN (outB s (bst s k)) = z ∧ byN (outB s (k + 1)) = z2) := Lib.hid ⟨by rw [← hz, HT.out.1.1]; rfl, by rw [← hz2, HT2.out.1]; rfl⟩
      have HB : Hid (bst s (k + 1) = if z2 < z then k + 1 else bst s k) := Lib.hid (by rw [bst, HZ.out.1, HZ.out.2])
      by_cases hl : z2 < z
      · have hl2 : (z2 : Int) < (z : Int) := by omega
        go_wp2_with fail
        go_roundg (gk - 1)
        case measure => omega
        case rel =>
          refine ⟨k + 1, t2, rfl, by go_num, by omega, Lib.hid ?_⟩
          rw [HB.out, if_pos hl]
          exact ⟨HT2.out, HO2.out, _, HK2.out⟩
      · have hl2 : ¬ (z2 : Int) < (z : Int) := by omega
        go_wp2_with fail
        go_roundg (gk - 1)
        case measure => omega
        case rel =>
          refine ⟨k + 1, t, rfl, by go_num, by omega, Lib.hid ?_⟩
          rw [HB.out, if_neg hl]
          exact ⟨HT.out.1, HO2.out, HT.out.2.2⟩
    · obtain rfl : k = 3 := by omega
      clear HS H1
      go_wp2
      go_ret
      exact ⟨⟨t, rfl, HT.out.1, HT.out.2.1⟩, HT.out.2.2⟩

def kHello : ByteArray := ⟨#[104, 101, 108, 108, 111, 32, 104, 101, 108, 108, 111, 32, 104, 101, 108, 108, 111]⟩
theorem byN_pos {s : ByteArray} {R : List UInt8} {ks : List Nat} (h : PkOut s R ks) {t : ByteArray} (ht : TextIs R t) (hne : 0 < s.size) : 0 < t.size := by
  rcases Nat.eq_zero_or_pos t.size with e | e
  · exfalso
    have h1 := h.text ht
    have h2 : R.length = 0 := by have := ht.1; omega
    have h3 : t.data.toList = [] := List.length_eq_zero_iff.1 e
    rw [h3] at h1
    unfold mStream at h1
    have h4 : (s.data.toList).length = 0 := by
      simp [bitsOf, mStr] at h1
    have : s.data.toList.length = s.size := rfl
    omega
  · exact e
set_option maxHeartbeats 4000000 in
theorem awake12 (w : World) : Calls Tryz.prog 6 #[] w fun e w' => e = .returned (.bool true) ∧ Only (fun _ => False) w w' := by
  have hk : kHello.size = 17 := rfl
  have HS : Hid (∀ w1, Calls Tryz.prog 7 #[.string ⟨#[104, 101, 108, 108, 111, 32, 104, 101, 108, 108, 111, 32, 104, 101, 108, 108, 111]⟩, .int .i64 2] w1 (StreamP kHello 2 w1)) := Lib.hid fun w1 => stream kHello 2 w1 (by decide) (by decide)
  have HR : Hid (∀ w1 t ks, TextIs (outB kHello 2) t → PkOut kHello (outB kHello 2) ks → Calls Tryz.prog 8 #[.string t, .int .i64 99] w1 fun e w' => ∃ Ak ck, e = .returned (.tuple #[.string ⟨#[104, 101, 108, 108, 111, 32, 104, 101, 108, 108, 111, 32, 104, 101, 108, 108, 111]⟩, .int .i64 (t.size : Nat), .slice Ak ks.length ck, .int .i64 0]) ∧ See w' w'.heap.size Ak (ints ks) ∧ Only (fun _ => False) w1 w') := Lib.hid fun w1 t ks h1 h2 =>
    sread kHello t _ ks 99 h2 h1 (by decide) (by decide) (by decide) w1
  have HB : Hid (∀ w1, Calls Tryz.prog 10 #[.string ⟨#[97]⟩] w1 (BestP ⟨#[97]⟩ w1)) := Lib.hid fun w1 => bestC ⟨#[97]⟩ w1 (by decide)
  have HM : Hid (∀ w1, Calls Tryz.prog 11 #[.int .i64 65535] w1 fun e w' => e = .returned (.int .i64 65545) ∧ w1 = w') := Lib.hid fun w1 => most 65535 w1
  clear hk
  go_enter Tryz.func6, Tryz.ntmps6
  go_wp2_with fail
  refine (HS.out _).mono ?_
  rintro e w1 ⟨⟨t, rfl, ht, o1⟩, ks, hks, _⟩
  have HC := Lib.hid (HR.out w1 t ks ht hks)
  have HO1 := Lib.hid o1
  clear ht o1 hks HS HR
  obtain ⟨z, hz⟩ : ∃ z, t.size = z := ⟨_, rfl⟩
  rw [hz] at HC
  go_wp2_with fail
  refine HC.out.mono ?_
  rintro e w2 ⟨Ak, ck, rfl, _, o2⟩
  have HO2 := Lib.hid (HO1.out.trans o2)
  clear o2 HC HO1
  go_wp2_with fail
  refine (HM.out _).mono ?_
  rintro e _ ⟨rfl, rfl⟩
  go_wp2_with fail
  refine (HB.out _).mono ?_
  rintro e w3 ⟨⟨t3, rfl, ht3, o3⟩, ks3, hk3⟩
  have h3 := byN_pos hk3 ht3 (by decide)
  have HO3 := Lib.hid (HO2.out.trans o3)
  clear ht3 o3 hk3 HO2 HB HM
  obtain ⟨z3, hz3⟩ : ∃ z, t3.size = z := ⟨_, rfl⟩
  rw [hz3] at h3
  have h4 : (0 : Int) < (z3 : Int) := by omega
  go_wp2
  go_ret
  exact ⟨rfl, HO3.out⟩
end Go.Proofs.YtaicihghndoclaaGreat
