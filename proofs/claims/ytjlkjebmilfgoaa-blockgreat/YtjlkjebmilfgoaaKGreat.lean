/- Layer 11: a block of more bytes than may be is refused, and nothing is written. -/
import Derived.Test.YtjlkjebmilfgoaaKAwake
namespace Go.Proofs.Ytjlkjebmilfgoaa
open Go.RowKit

theorem rep_set (c : UInt8) (N k : Nat) (h : k < N) : (List.replicate k c ++ List.replicate (N - k) 0).set k c = List.replicate (k + 1) c ++ List.replicate (N - (k + 1)) 0 := by
  rw [List.set_append_right _ _ (by rw [List.length_replicate]; exact Nat.le_refl _), List.length_replicate, Nat.sub_self, show N - k = (N - (k + 1)) + 1 by omega, List.replicate_succ (n := N - (k + 1)), List.set_cons_zero, List.replicate_succ', List.append_assoc]
  rfl
theorem cut5 (a l : List UInt8) (h : a.length = 5) : ByteArray.extract ⟨(a ++ l).toArray⟩ 5 (ByteArray.size ⟨(a ++ l).toArray⟩) = ⟨l.toArray⟩ ∧ 5 ≤ ByteArray.size ⟨(a ++ l).toArray⟩ := by
  have hs : ByteArray.size ⟨(a ++ l).toArray⟩ = 5 + l.length := by
    show (a ++ l).toArray.size = _
    simp [h]
  refine ⟨?_, by omega⟩
  rw [hs]
  apply ByteArray.ext
  rw [ByteArray.data_extract]
  apply Array.ext'
  simp [h]
theorem stored_len (S : ByteArray) : (storedB [] S true).length = 8 * (5 + S.size) := by
  unfold storedB
  rw [List.nil_append, List.length_append, alignB_length, headB_length, List.length_append, bitsOf_length, bitsOf_length, List.length_append, bytesOf_length, bytesOf_length]
  rw [show S.data.toList.length = S.size from rfl]
  omega
theorem head_le : le2 (headB 0 true) = le [1] := by decide +kernel
theorem stored_le (S : ByteArray) : le2 (storedB [] S true) = le ([1] ++ (bytesOf S.size 2 ++ bytesOf (18446744073709551615 - S.size) 2) ++ S.data.toList) := by
  unfold storedB
  rw [le2_append, List.nil_append, alignB_length, headB_length, le2_alignB, ← bitsOf_append, le2_bitsOf, List.append_assoc [1], le_append [1], head_le]
  generalize le (bytesOf S.size 2 ++ bytesOf (18446744073709551615 - S.size) 2 ++ S.data.toList) = X
  rfl
set_option maxRecDepth 20000 in
set_option maxHeartbeats 4000000 in
theorem great (cb : UInt8) (n : Nat) (w : World) : Calls Try.prog 3 #[.int .u8 cb.toNat, .int .u16 n] w (YesK w) := by
  obtain ⟨q, hq⟩ : ∃ q, n % 12 = q := ⟨_, rfl⟩
  have hq12 : q < 12 := by omega
  have eq1 : (n : Int) % 12 = (q : Int) := by omega
  obtain ⟨N, hN⟩ : ∃ N, 65530 + q = N := ⟨_, rfl⟩
  have eN : (65530 : Int) + (q : Int) = (N : Int) := by omega
  have hN1 : 65530 ≤ N := by omega
  have hN2 : N ≤ 65541 := by omega
  have HA := Lib.hid (awake11 w)
  clear hN hq
  go_enter Try.func3, Try.ntmps3
  go_wp2_with fail
  refine HA.out.mono ?_
  rintro e w1 ⟨rfl, o1⟩
  have HO1 := Lib.hid o1
  clear o1 HA
  obtain ⟨M, hM⟩ : ∃ M, M = (bcells (List.replicate N 0)).toArray := ⟨_, rfl⟩
  have hmk : ∀ W : World, (Instr.makeSlice 24 (.int .i64 N) (.int .i64 N)).run Try.prog W = .ok (.slice (some ⟨W.heap.size, 0, none⟩) N N) (W.alloc (.cells M 5)) := fun W => by
    rw [hM]
    exact bmake_row Try.underlying24 info5 N (by omega) W
  have hrow : BRow 5 (w1.alloc (.cells M 5)) (some ⟨w1.heap.size, 0, none⟩) N N (List.replicate 0 cb ++ List.replicate (N - 0) 0) := by
    rw [hM]
    exact BRow.made 5 w1 N (by omega)
  obtain ⟨g, hg⟩ : ∃ g, w1.heap.size = g := ⟨_, rfl⟩
  obtain ⟨wa, hwa⟩ : ∃ wa, w1.alloc (.cells M 5) = wa := ⟨_, rfl⟩
  have hoa : Only (fun _ => False) w1 wa := by rw [← hwa]; exact (Only.refl _ w1).alloc _
  have hmk1 := hmk w1
  rw [hg, hwa] at hmk1
  rw [hg, hwa] at hrow
  have HR := Lib.hid hrow
  have HOa := Lib.hid (HO1.out.trans hoa)
  have HG : Hid (w.heap.size ≤ g) := Lib.hid (by rw [← hg]; exact HO1.out.size)
  clear hM hmk hrow hg hwa hoa HO1
  go_wp2_with fail
  go_loopg [18] N (fun gk i wx => ∃ k : Nat, i = .int .i64 k ∧ k + gk ≤ N ∧ N ≤ k + gk ∧ Hid (BRow 5 wx (some ⟨g, 0, none⟩) N N (List.replicate k cb ++ List.replicate (N - k) 0)) ∧ Hid (Only (fun _ => False) w wx))
  case atStart => exact ⟨0, rfl, by omega, by omega, HR, HOa⟩
  case round =>
    clear HR HOa
    obtain ⟨k, rfl, hk, hk2, HR, HO⟩ := hrel
    by_cases hlt : k < N
    · obtain ⟨g', e1, c0, f0⟩ := HR.out.cell hlt
      obtain rfl : g = g' := by simpa using e1
      have HN : Hid (BRow 5 (wr.setCell ⟨g, k, none⟩ (.int .u8 cb.toNat)) (some ⟨g, 0, none⟩) N N (List.replicate (k + 1) cb ++ List.replicate (N - (k + 1)) 0)) := Lib.hid (by
        rw [← rep_set cb N k hlt]
        exact HR.out.stored k cb)
      have HO2 : Hid (Only (fun _ => False) w (wr.setCell ⟨g, k, none⟩ (.int .u8 cb.toNat))) := Lib.hid (HO.out.set (p := ⟨g, k, none⟩) (.inr HG.out) _)
      clear e1 HR HO
      go_wp2_with fail
      go_roundg (gk - 1)
      case measure => omega
      case rel => exact ⟨k + 1, by go_num, by omega, by omega, HN, HO2⟩
    · obtain rfl : k = N := by omega
      have hrow : BRow 5 wr (some ⟨g, 0, none⟩) k k (List.replicate k cb) := by
        have := HR.out
        rw [Nat.sub_self, List.replicate_zero, List.append_nil] at this
        exact this
      have HRow := Lib.hid hrow
      have HW := Lib.hid (newWf wr)
      obtain ⟨S, hS⟩ : ∃ S : ByteArray, (⟨(List.replicate k cb).toArray⟩ : ByteArray) = S := ⟨_, rfl⟩
      have hSs : S.size = k := by rw [← hS]; show (List.replicate k cb).toArray.size = k; simp
      have HSS := Lib.hid hS
      clear HR hrow hS
      go_wp2_with fail
      refine HW.out.mono ?_
      rintro e w2 ⟨rfl, f2, o2⟩
      obtain ⟨b, hb⟩ : ∃ b, wr.heap.size = b := ⟨_, rfl⟩
      rw [hb] at f2 ⊢
      have F2 := Lib.hid f2
      have HO2 := Lib.hid (HO.out.trans o2)
      have hc := (HRow.out.only o2 fun _ _ f => f).toText Try.underlying24 Try.underlying5 Try.underlying9
      rw [HSS.out] at hc
      have HB : Hid (w.heap.size ≤ b) := Lib.hid (by rw [← hb]; exact HO.out.size)
      have hgb : g < b := by rw [← hb]; exact HRow.out.lt g ⟨_, rfl, rfl⟩
      have HGB := Lib.hid hgb
      have O2 := Lib.hid o2
      clear f2 o2 HW HO hb hgb
      by_cases hgr : 65535 < k
      · have HSt := Lib.hid (stored_great (some ⟨b, 0, none⟩) S true w2 (by rw [hSs]; exact hgr) (by rw [hSs]; omega))
        have d0 : (65535 : Int) < (k : Int) := by omega
        go_wp2_with fail
        refine HSt.out.mono ?_
        rintro e w3 ⟨rfl, rfl⟩
        clear HSt hc
        go_wp2_with fail
        refine (wlen b _ _ w2 F2.out).mono ?_
        rintro e w4 ⟨rfl, rfl⟩
        go_wp2
        go_ret
        exact ⟨rfl, HO2.out⟩
      · have HSt := Lib.hid (stored b S true _ [] w2 F2.out (by decide) (by rw [hSs]; omega))
        have d0 : ¬ (65535 : Int) < (k : Int) := by omega
        go_wp2_with fail
        refine HSt.out.mono ?_
        rintro e w3 ⟨rfl, q3⟩
        have hlen := stored_len S
        rw [hSs] at hlen
        have hle := stored_le S
        rw [hSs, show S.data.toList = List.replicate k cb by rw [← HSS.out]] at hle
        have HT : Hid (∀ t, TextIs (storedB [] S true) t → t = ⟨([1] ++ (bytesOf k 2 ++ bytesOf (18446744073709551615 - k) 2) ++ List.replicate k cb).toArray⟩) := Lib.hid fun t ht => text_is _ ht (by
          rw [hlen, List.length_append, List.length_append, List.length_append, bytesOf_length, bytesOf_length, List.length_replicate, List.length_singleton]
          omega) hle.symm
        have W3 := Lib.hid q3.wf
        have HO3 : Hid (Only (fun _ => False) w w3) := Lib.hid (HO2.out.andThen q3.only fun j e => .inr (by have := HB.out; omega))
        have hc3 : BRow 5 w3 (some ⟨g, 0, none⟩) k k (List.replicate k cb) := (HRow.out.only O2.out fun _ _ f => f).only q3.only fun j e1 e2 => by
          have := HGB.out
          obtain ⟨_, e3, e4⟩ := e1
          cases e3
          subst e4
          exact absurd e2 (Nat.ne_of_lt this)
        have HC3 := Lib.hid hc3
        have HLn := Lib.hid hlen
        clear hc3 hc q3 HSt hle hlen
        obtain ⟨T, hT⟩ : ∃ T : ByteArray, (⟨([1] ++ (bytesOf k 2 ++ bytesOf (18446744073709551615 - k) 2) ++ List.replicate k cb).toArray⟩ : ByteArray) = T := ⟨_, rfl⟩
        have hT5 : T.extract 5 T.size = S ∧ 5 ≤ T.size := by
          rw [← hT, ← HSS.out]
          exact cut5 _ _ (by rw [List.length_append, List.length_append, bytesOf_length, bytesOf_length]; rfl)
        have hT2 : ∀ t, TextIs (storedB [] S true) t → t = T := by
          intro t ht
          rw [← hT]
          exact HT.out t ht
        have hL : ∀ m, Calls Try.prog 7 #[.pointer (some ⟨b, 0, none⟩)] (w3.drewN m) fun e w' => e = .returned (.int .i64 (8 * (5 + k) : Nat)) ∧ ∃ m', w' = w3.drewN m' := by
          intro m
          refine (wlen b _ _ _ (W3.out.new ((Only.refl _ w3).drewN m))).mono ?_
          rintro e w' ⟨rfl, rfl⟩
          rw [HLn.out]
          exact ⟨rfl, m, rfl⟩
        have hX : ∀ m, Calls Try.prog 8 #[.pointer (some ⟨b, 0, none⟩)] (w3.drewN m) fun e w' => e = .returned (.string T) ∧ ∃ m', w' = w3.drewN m' := by
          intro m
          refine (wtext b _ _ _ (W3.out.new ((Only.refl _ w3).drewN m))).mono ?_
          rintro e w' ⟨⟨t, rfl, ht⟩, rfl⟩
          rw [hT2 t ht]
          exact ⟨rfl, m, rfl⟩
        have hcv : ∀ m, (convert 24 9 (.slice (some ⟨g, 0, none⟩) k k)).run Try.prog (w3.drewN m) = .ok (.string S) (w3.drewN m) := by
          intro m
          rw [← HSS.out]
          exact (HC3.out.only ((Only.refl (fun _ => False) w3).drewN m) fun _ _ f => f).toText Try.underlying24 Try.underlying5 Try.underlying9
        have HL := Lib.hid hL
        have HX := Lib.hid hX
        obtain ⟨U, hU⟩ : ∃ U : Nat, 5 + k = U := ⟨_, rfl⟩
        obtain ⟨V, hV⟩ : ∃ V : Nat, 8 * U = V := ⟨_, rfl⟩
        have e5 : (5 : Int) + (k : Int) = (U : Int) := by omega
        have e8 : (8 : Int) * (U : Int) = (V : Int) := by omega
        have hU1 : U ≤ 65600 := by omega
        have hV1 : V ≤ 600000 := by omega
        rw [hU, hV] at HL
        clear hU hV
        obtain ⟨ht5, ht6⟩ := hT5
        clear hT hT2 hL hX HT HLn W3 HC3
        go_wp2_with fail
        go_quiet ((first | (go_at_call 7; exact HL.out _) | (go_at_call 8; exact HX.out _)))
        go_wp2
        go_ret
        exact ⟨rfl, HO3.out.drewN _⟩
end Go.Proofs.Ytjlkjebmilfgoaa
