/- Layer 14, the program: a text folded, two texts alike. -/
import Derived.Test.YtaeaomlhbdbbfaaGreatDoorFpG
import Derived.Test.YtaeaomlhbdbbfaaGreatDoorFpA
import Derived.Test.YtaeaomlhbdbbfaaGreatDoorFdV
namespace Go.Proofs.YtaeaomlhbdbbfaaGreatDoor
open Go.RowKit

theorem ptextNil {l : List UInt8} (h : l = []) : (tx l).toList.isEmpty = true := by rw [tx_toList, h]; rfl
theorem bcl_app (a b : List UInt8) : Lib.byteCells a ++ Lib.byteCells b = Lib.byteCells (a ++ b) := by simp [Lib.byteCells]
theorem bcl_str (p : List UInt8) : Lib.strCells (tx p) = Lib.byteCells p := rfl
theorem bcl_len (p : List UInt8) : (Lib.byteCells p).length = p.length := by simp [Lib.byteCells]
/-- The builder of the call's own holds a text. -/
def Bf (w : World) (X : List UInt8) (wx : World) : Prop := Lib.IsBuilderF 97 5 w.heap.size w.heap.size (Lib.byteCells X) wx ∧ Below w.heap.size w wx
theorem Bf.later {w wx wy : World} {X : List UInt8} (h : Bf w X wx) (o : Only (fun _ => False) wx wy) : Bf w X wy := by
  have b := o.below wx.heap.size (Nat.le_refl _) fun _ _ f => f
  have stay : ∀ p, Lib.BuilderAtF 97 5 w.heap.size w.heap.size p (Lib.byteCells X) wx → Lib.BuilderAtF 97 5 w.heap.size w.heap.size p (Lib.byteCells X) wy := fun p q => by
    refine ⟨q.1, q.2.elim fun v r => ⟨v, (o.block _ (block_lt r.1) fun f => f).trans r.1, r.2.1.kept ⟨b.os, b.tape, b.output, b.size, fun k hk _ => b.block k hk⟩ (?_ : v.ownBlock = none ∨ v.ownBlock ≠ none), r.2.2⟩⟩
    cases v.ownBlock <;> simp
  exact ⟨h.1.imp (stay _) (stay _), h.2.trans (o.below w.heap.size h.2.size fun _ _ f => f)⟩
theorem Bf.only {w wx : World} {X : List UInt8} (h : Bf w X wx) : Only (fun _ => False) w wx := only_of_belowF h.2
theorem Bf.grow (w : World) (n : Nat) (hn : n ≤ 100000) : Calls Tryz.prog 72 #[.pointer (some ⟨w.heap.size, 0, none⟩), .int .i64 n] (w.alloc (.cells #[.pointer none, .slice none 0 0] 97)) fun e w' => e = .returned (.tuple #[]) ∧ Bf w [] w' := by
  have b0 : Below w.heap.size w (w.alloc (.cells #[.pointer none, .slice none 0 0] 97)) := (Below.refl _ w).alloc (Nat.le_refl _) _
  refine (Tryz.Builder_Grow_fresh w.heap.size w.heap.size n _ (Nat.le_refl _) (heap_alloc_new w _) b0.size (by omega)).mono ?_
  rintro e w' ⟨rfl, h1, h2⟩
  exact ⟨rfl, .inr (Lib.BuilderAtF.of h1), b0.trans h2⟩
theorem Bf.text {w wx : World} {X : List UInt8} (h : Bf w X wx) (p : List UInt8) (hl : X.length + p.length ≤ 300000) : Calls Tryz.prog 75 #[.pointer (some ⟨w.heap.size, 0, none⟩), .string (tx p)] wx fun e w' => e = .returned (.tuple #[.int .i64 p.length, .nilIface]) ∧ Bf w (X ++ p) w' := by
  refine (Tryz.Builder_WriteString_f _ _ _ (tx p) wx h.1 (by rw [bcl_len, tx_size]; omega) h.2.size).mono ?_
  rintro e w' ⟨rfl, h1, h2⟩
  refine ⟨by rw [tx_size], .inr ?_, h.2.trans h2⟩
  rw [← bcl_app, ← bcl_str p]
  exact h1
theorem Bf.rune {w wx : World} {X : List UInt8} (h : Bf w X wx) (c : Nat) (hc : c < 2048) (hl : X.length ≤ 300000) : Calls Tryz.prog 76 #[.pointer (some ⟨w.heap.size, 0, none⟩), .int .i32 c] wx fun e w' => (∃ m, e = .returned (.tuple #[.int .i64 m, .nilIface])) ∧ Bf w (X ++ utf8F c) w' := by
  refine (Tryz.Builder_WriteRune_k _ _ _ c (by omega) (by omega) wx h.1 (by rw [bcl_len]; omega) h.2.size).mono ?_
  rintro e w' ⟨rfl, h1, h2, _⟩
  refine ⟨⟨_, rfl⟩, .inr ?_, h.2.trans h2⟩
  rw [← bcl_app, ← rune_two c hc]
  exact h1
theorem Bf.string {w wx : World} {X : List UInt8} (h : Bf w X wx) : Calls Tryz.prog 77 #[.pointer (some ⟨w.heap.size, 0, none⟩)] wx fun e w' => e = .returned (.string (tx X)) ∧ Only (fun _ => False) w w' := by
  refine (Tryz.Builder_String_any_f _ _ X wx h.1 h.2.size).mono ?_
  rintro e w' ⟨rfl, h1, h2⟩
  exact ⟨rfl, only_of_belowF (h.2.trans h2)⟩
theorem pdecode {w : World} (hg : GrF w) (m : List UInt8) (c k : Nat) (hd : Lib.decodeGo (tx m) = (c, k)) : Calls Tryz.prog 73 #[.string (tx m)] w fun e w' => e = .returned (.tuple #[.int .i32 c, .int .i64 k]) ∧ Only (fun _ => False) w w' := by
  refine (Tryz.utf8_DecodeRuneInString (tx m) w hg.1).mono ?_
  rintro e w' ⟨rfl, h2⟩
  rw [hd]
  exact ⟨rfl, only_of_belowF h2⟩
theorem decode_some (b : UInt8) (m : List UInt8) : Lib.decodeGo (tx (b :: m)) = Utf8.decode (tx (b :: m)) 0 := by
  unfold Lib.decodeGo
  rw [if_neg (by rw [tx_size]; simp)]

set_option maxRecDepth 20000 in
set_option maxHeartbeats 4000000 in
theorem pfold (l : List UInt8) (w : World) (hg : GrF w) (hl : l.length ≤ 1000) : Calls Tryz.prog 59 #[.string (tx l)] w fun e w' => e = .returned (.string (tx (foldF l))) ∧ Only (fun _ => False) w w' := by
  have HK : Hid (∀ w', Only (fun _ => False) w w' → GrF w') := Lib.hid fun w' k => hg.keep k
  clear hg
  have hz : (tx l).size = l.length := tx_size l
  have HG := Lib.hid (Bf.grow w l.length (by omega))
  have HT := Lib.hid (fold_length l)
  have HS : Hid (∀ w1, GrF w1 → ∀ c : Nat, c ≤ 1114111 → Calls Tryz.prog 74 #[.int .i64 (c : Int)] w1 fun e w' => e = .returned (.int .i64 (smallN c : Nat)) ∧ Only (fun _ => False) w1 w') := Lib.hid fun w1 h c hc => by
    have := psmall (c : Int) w1 h (by omega) (by omega)
    rw [small_nat] at this
    exact this
  obtain ⟨N, hN⟩ : ∃ N, l.length = N := ⟨_, rfl⟩
  rw [hN] at hl hz HG HT
  go_enter Tryz.func59, Tryz.ntmps59
  go_wp2_with fail
  refine HG.out.mono ?_
  rintro e w1 ⟨rfl, hb⟩
  have HB := Lib.hid hb
  clear hb HG
  go_wp2_with fail
  go_loopg [0] N (fun gk u wx => ∃ (m d : List UInt8), u = .string (tx m) ∧ m.length = gk ∧ Hid (foldF l = d ++ foldF m) ∧ Hid (d.length + gk = N) ∧ Hid (Bf w d wx))
  case atStart => exact ⟨l, [], rfl, hN, Lib.hid rfl, Lib.hid (Nat.zero_add N), HB⟩
  case round =>
    obtain ⟨m, d, rfl, hm, HF, HL, HM⟩ := hrel
    cases m with
    | nil =>
      have he : (tx ([] : List UInt8)).toList.isEmpty = true := ptextNil rfl
      have HE : Hid (foldF l = d) := Lib.hid (by rw [HF.out, fold_nil, List.append_nil])
      go_wp2_with fail
      refine HM.out.string.mono ?_
      rintro e w2 ⟨rfl, o2⟩
      have O2 := Lib.hid o2
      clear o2
      go_wp2
      go_ret
      rw [HE.out]
      exact ⟨rfl, O2.out⟩
    | cons b r =>
      obtain ⟨c, k, p, h1, h2, h3, h4, h5, h6, h7⟩ := fold_run b r
      have HD := Lib.hid (pdecode (HK.out _ HM.out.only) (b :: r) c k (by rw [decode_some]; exact h1))
      have hne : (tx (b :: r)).toList.isEmpty = false := by rw [tx_toList]; rfl
      have hzm : (tx (b :: r)).size = (b :: r).length := tx_size _
      have hc1 : (tx (b :: r)).extract 0 k = tx ((b :: r).take k) := tx_cut _ 0 k
      have hc2 : (tx (b :: r)).extract k (b :: r).length = tx ((b :: r).drop k) := by rw [tx_cut, tx_list, List.take_of_length_le (Nat.le_refl _)]
      have hdl : ((b :: r).drop k).length = (b :: r).length - k := List.length_drop
      have hgk := hm
      rw [hm] at h3 hzm hc2 hdl
      have HF2 : Hid (foldF l = (d ++ p) ++ foldF ((b :: r).drop k)) := Lib.hid (by rw [HF.out, h6, List.append_assoc])
      have HL2 : Hid ((d ++ p).length + (gk - k) = N) := Lib.hid (by rw [List.length_append, h5]; have := HL.out; omega)
      generalize b :: r = m at *
      generalize m.drop k = m2 at *
      clear h1 h6 HF
      rcases h7 with ⟨h8, h9⟩ | ⟨h8, h9, h10⟩
      · rw [← h9] at hc1
        clear h9
        have q : ((c : Int) == (c : Int)) = true := beq_self_eq_true _
        go_wp2_with fail
        refine HD.out.mono ?_
        rintro e w2 ⟨rfl, o2⟩
        have HM2 := Lib.hid (HM.out.later o2)
        clear o2 HD HM
        go_wp2_with fail
        have HS2 := HS.out _ (HK.out _ HM2.out.only) c h4
        rw [h8] at HS2
        refine HS2.mono ?_
        rintro e w3 ⟨rfl, o3⟩
        have HM3 := Lib.hid (HM2.out.later o3)
        clear o3 HM2 HS2
        go_wp2_with fail
        refine (HM3.out.text p (by have := HL2.out; rw [List.length_append] at this; omega)).mono ?_
        rintro e w4 ⟨rfl, hb4⟩
        have HM4 := Lib.hid hb4
        clear hb4 HM3
        go_wp2_with fail
        go_roundg (gk - k)
        case measure => omega
        case rel => exact ⟨m2, d ++ p, rfl, hdl, HF2, HL2, HM4⟩
      · obtain ⟨s, hs⟩ : ∃ s, smallN c = s := ⟨_, rfl⟩
        rw [hs] at h8 h9 h10
        have H10 := Lib.hid h10
        clear h10
        have q : ((s : Int) == (c : Int)) = false := by rw [beq_eq_false_iff_ne]; omega
        go_wp2_with fail
        refine HD.out.mono ?_
        rintro e w2 ⟨rfl, o2⟩
        have HM2 := Lib.hid (HM.out.later o2)
        clear o2 HD HM
        go_wp2_with fail
        have HS2 := HS.out _ (HK.out _ HM2.out.only) c h4
        rw [hs] at HS2
        refine HS2.mono ?_
        rintro e w3 ⟨rfl, o3⟩
        have HM3 := Lib.hid (HM2.out.later o3)
        clear o3 HM2 HS2
        go_wp2_with fail
        refine (HM3.out.rune s h9 (by have := HL2.out; rw [List.length_append] at this; omega)).mono ?_
        rintro e w4 ⟨⟨mm, rfl⟩, hb4⟩
        have HM4 := Lib.hid hb4
        rw [← H10.out] at HM4
        clear hb4 HM3
        go_wp2_with fail
        go_roundg (gk - k)
        case measure => omega
        case rel => exact ⟨m2, d ++ p, rfl, hdl, HF2, HL2, HM4⟩
end Go.Proofs.YtaeaomlhbdbbfaaGreatDoor
