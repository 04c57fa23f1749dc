/- Layer 5: a table of a code, made by the program's New. -/
import Derived.Test.YtackcgiokkbhdaaDoorTurn
namespace Go.Proofs.YtackcgiokkbhdaaDoor
open Go.RowKit

/-- Block T is a table of the code that l makes; all that it leads to lies below, from lo on. -/
def Tab (w : World) (lo T : Nat) (l : List Nat) : Prop := ∃ (A1 A2 A3 A4 : Option Addr) (c1 c2 c3 c4 : Nat),
  Is w T 125 [.slice A1 l.length c1, .slice A2 l.length c2, .slice A3 (st l 16) c3, .slice A4 (lg l) c4] ∧
  See w T A3 (ints (ord l)) ∧ See w T A4 (ints (ctl l)) ∧ (∀ j, Lies A3 j → lo ≤ j) ∧ (∀ j, Lies A4 j → lo ≤ j) ∧ lo ≤ T
theorem Tab.keep {w w' : World} {lo T : Nat} {l : List Nat} {X : Nat → Prop} (h : Tab w lo T l) (k : Only X w w') (hd : ∀ j, lo ≤ j → j ≤ T → ¬ X j) : Tab w' lo T l := by
  obtain ⟨A1, A2, A3, A4, c1, c2, c3, c4, h0, h3, h4, l3, l4, hT⟩ := h
  exact ⟨A1, A2, A3, A4, c1, c2, c3, c4, h0.only k (hd T hT (Nat.le_refl _)), h3.apart l3 k (fun j a b => hd j a (Nat.le_of_lt b)), h4.apart l4 k (fun j a b => hd j a (Nat.le_of_lt b)), l3, l4, hT⟩
theorem Tab.new {w w' : World} {lo T : Nat} {l : List Nat} (h : Tab w lo T l) (k : Only (fun _ => False) w w') : Tab w' lo T l := h.keep k fun _ _ _ f => f
theorem Tab.lt {w : World} {lo T : Nat} {l : List Nat} (h : Tab w lo T l) : T < w.heap.size := by
  obtain ⟨A1, A2, A3, A4, c1, c2, c3, c4, h0, _⟩ := h
  exact h0.lt
theorem Tab.lo_le {w : World} {lo T : Nat} {l : List Nat} (h : Tab w lo T l) : lo ≤ T := by
  obtain ⟨A1, A2, A3, A4, c1, c2, c3, c4, _, _, _, _, _, h0⟩ := h
  exact h0
theorem Tab.less {w : World} {lo l2 T : Nat} {l : List Nat} (h : Tab w lo T l) (hl : l2 ≤ lo) : Tab w l2 T l := by
  obtain ⟨A1, A2, A3, A4, c1, c2, c3, c4, h0, h3, h4, l3, l4, hT⟩ := h
  exact ⟨A1, A2, A3, A4, c1, c2, c3, c4, h0, h3, h4, fun j hj => Nat.le_trans hl (l3 j hj), fun j hj => Nat.le_trans hl (l4 j hj), Nat.le_trans hl hT⟩

def NewNo (w : World) (x : Nat) (e : Ending) (w' : World) : Prop := e = .returned (.tuple #[.pointer none, .int .i64 x]) ∧ Only (fun _ => False) w w'
theorem new_bad (A : Option Addr) (n c k x : Nat) (w : World) (h : Calls Tryd.prog 86 #[.slice A n c] w (CheckPost w k x)) (hx : x ≠ 0) :
    Calls Tryd.prog 74 #[.slice A n c] w (NewNo w x) := by
  have hx2 : ¬ (x : Int) = 0 := by omega
  go_enter Tryd.func74, Tryd.ntmps74
  go_wp2_with fail
  refine h.mono ?_
  rintro e w' ⟨rfl, ho⟩
  have HO := Lib.hid ho
  clear ho h
  go_wp2
  go_ret2
  exact ⟨rfl, HO.out⟩

def NewYes (w : World) (l : List Nat) (e : Ending) (w' : World) : Prop := ∃ T, e = .returned (.tuple #[.pointer (some ⟨T, 0, none⟩), .int .i64 0]) ∧ Tab w' w.heap.size T l ∧ Only (fun _ => False) w w' ∧ w.heap.size ≤ T
set_option maxHeartbeats 1000000 in
theorem new_yes (A : Option Addr) (n c B : Nat) (l : List Nat) (w : World) (h : See w B A (ints l)) (hB : B ≤ w.heap.size) (hn : l.length = n) (h288 : n ≤ 288) (hl : Low l) (hk : (kd l).2 = 0) :
    Calls Tryd.prog 74 #[.slice A n c] w (NewYes w l) := by
  have HF := Lib.hid (kd_full l hl hk)
  have HC := Lib.hid (check_yes A n c B l w h hn h288 hl)
  have HS := Lib.hid h
  have HL := Lib.hid hl
  have HN := Lib.hid hn
  clear h hl hn
  rw [hk] at HC
  clear hk
  go_enter Tryd.func74, Tryd.ntmps74
  go_wp2_with fail
  refine HC.out.mono ?_
  rintro e w1 ⟨rfl, ho1⟩
  have HS1 := Lib.hid ((HS.out.new ho1).more (Nat.le_trans hB ho1.size))
  have HO1 := Lib.hid ho1
  clear HC ho1
  go_wp2_with fail
  refine (inOrder A n c _ l w1 HS1.out HN.out h288 HL.out).mono ?_
  rintro e w2 ⟨g, rfl, hm⟩
  have HS2 := Lib.hid ((HS1.out.new hm.2.1).more hm.2.1.size)
  have HM := Lib.hid hm
  obtain ⟨m, hm2⟩ : ∃ m, st l 16 = m := ⟨_, rfl⟩
  have HM2 := Lib.hid hm2
  rw [hm2]
  clear hm2 hm
  go_wp2_with fail
  refine (clone A n c _ (ints l) w2 HS2.out (by rw [ints_length, HN.out]) (by omega) (ints_one _)).mono ?_
  rintro e w3 ⟨A1, c1, rfl, hm3⟩
  have HS3 := Lib.hid ((HS2.out.new hm3.2.1).more hm3.2.1.size)
  have HR3 := Lib.hid ((HM.out.see.new hm3.2.1).more hm3.2.1.size)
  have HM3 := Lib.hid hm3
  clear hm3
  go_wp2_with fail
  refine (numbers A _ n c m m _ l w3 HS3.out HR3.out HN.out h288 HL.out HM2.out).mono ?_
  rintro e w4 ⟨g4, rfl, hm4⟩
  have HS4 := Lib.hid ((HS3.out.new hm4.2.1).more hm4.2.1.size)
  have HM4 := Lib.hid hm4
  clear hm4
  go_wp2_with fail
  refine (turn _ A n n c _ l w4 HM4.out.see HS4.out HN.out h288 HL.out HF.out (Nat.le_refl _)).mono ?_
  rintro e w5 ⟨g5, rfl, hm5⟩
  have HS5 := Lib.hid ((HS4.out.new hm5.2.1).more hm5.2.1.size)
  have HM5 := Lib.hid hm5
  clear hm5
  go_wp2_with fail
  refine (count A n c _ l w5 HS5.out HN.out h288 HL.out).mono ?_
  rintro e w6 ⟨rfl, ho6⟩
  have HO6 := Lib.hid ho6
  clear ho6
  obtain ⟨cs, hcs⟩ : ∃ cs, (ints (cnts l)).toArray = cs := ⟨_, rfl⟩
  have HCS := Lib.hid hcs
  rw [hcs]
  clear hcs
  go_wp2_with fail
  refine (show Calls Tryd.prog 91 #[.agg cs] w6 (LongPost w6 l) from by rw [← HCS.out]; exact longest l w6).mono ?_
  rintro e w7 ⟨A4, c4, rfl, hm7⟩
  have HM7 := Lib.hid hm7
  obtain ⟨k, hk⟩ : ∃ k, lg l = k := ⟨_, rfl⟩
  have HK := Lib.hid hk
  rw [hk]
  clear hm7 hk
  go_wp2
  go_ret2
  have o56 : Only (fun _ => False) w5 w7 := HO6.out.trans HM7.out.2.1
  have o45 := HM5.out.2.1
  have o34 := HM4.out.2.1
  have o23 := HM3.out.2.1
  have o12 := HM.out.2.1
  have ofin := (Only.refl (fun _ => False) w7).alloc (.cells [Value.slice A1 n c1, .slice (some ⟨g5, 0, none⟩) n n, .slice (some ⟨g, 0, none⟩) m m, .slice A4 k c4].toArray 125)
  have s3 : See _ w7.heap.size (some ⟨g, 0, none⟩) (ints (ord l)) := ((HM.out.see.new (o23.trans (o34.trans (o45.trans o56)))).more (o23.trans (o34.trans (o45.trans o56))).size).new ofin
  have s4 : See _ w7.heap.size A4 (ints (ctl l)) := HM7.out.see.new ofin
  have oall : Only (fun _ => False) w w7 := HO1.out.trans (o12.trans (o23.trans (o34.trans (o45.trans o56))))
  refine ⟨w7.heap.size, rfl, ⟨A1, some ⟨g5, 0, none⟩, some ⟨g, 0, none⟩, A4, c1, n, m, c4, ?_, s3, s4, fun j hj => Nat.le_trans HO1.out.size (HM.out.2.2 j hj), fun j hj => Nat.le_trans (HO1.out.trans (o12.trans (o23.trans (o34.trans (o45.trans HO6.out))))).size (HM7.out.2.2 j hj), oall.size⟩, oall.trans ofin, oall.size⟩
  rw [HN.out, HM2.out, HK.out]
  exact Is.new w7 125 _
end Go.Proofs.YtackcgiokkbhdaaDoor
