/- Layer 11, the program: the first code's lengths in the order in which they are told. -/
import Derived.Test.YtjlkjebmilfgoaaKOT
import Derived.Test.YtjlkjebmilfgoaaQC
import Derived.Test.YtjlkjebmilfgoaaM8
import Derived.Test.YtjlkjebmilfgoaaKShape
namespace Go.Proofs.Ytjlkjebmilfgoaa
open Go.RowKit

/-- The first k lengths, as they are told. -/
def toldTo (f : List Nat) (k : Nat) : List Nat := (order.take k).map (ln f)
theorem toldTo_succ (f : List Nat) (k : Nat) (hk : k < 19) : toldTo f (k + 1) = toldTo f k ++ [ln f (order.getD k 0)] := by
  unfold toldTo
  have h : order[k]? = some (order.getD k 0) := by
    rw [List.getD_eq_getElem?_getD, List.getElem?_eq_getElem (by simpa [order] using hk)]
    rfl
  rw [List.take_add_one, h]
  simp
theorem toldTo_length (f : List Nat) (k : Nat) (hk : k ≤ 19) : (toldTo f k).length = k := by
  unfold toldTo
  rw [List.length_map, List.length_take]
  have : order.length = 19 := rfl
  omega
def FirstsP (w : World) (f : List Nat) (e : Ending) (w' : World) : Prop := ∃ g c, e = .returned (.slice (some ⟨g, 0, none⟩) 19 c) ∧ Made 3 w (some ⟨g, 0, none⟩) 19 c (ints (toldTo f 19)) w'
set_option maxRecDepth 20000 in
set_option maxHeartbeats 2000000 in
theorem inFirstOrder (A : Option Addr) (c B : Nat) (f : List Nat) (w : World) (h : See w B A (ints f)) (hn : f.length = 19) :
    Calls Try.prog 55 #[.slice A 19 c] w (FirstsP w f) := by
  have hmk : (Instr.makeSlice 53 (.int .i64 0) (.int .i64 19)).run Try.prog w = .ok (.slice (some ⟨w.heap.size, 0, none⟩) 0 19) (w.alloc (.cells (madeCells #[.int .i64 0] 19) 3)) := run_make_room Try.underlying53 info3 19 (by omega) (by omega) w
  have HST : Hid (Made 3 w (some ⟨w.heap.size, 0, none⟩) 0 19 (ints (toldTo f 0)) (w.alloc (.cells (madeCells #[.int .i64 0] 19) 3))) := Lib.hid (room_made 19 (by decide))
  obtain ⟨wa, hwa⟩ : ∃ wa, w.alloc (.cells (madeCells #[.int .i64 0] 19) 3) = wa := ⟨_, rfl⟩
  obtain ⟨g0, hg0⟩ : ∃ g0, w.heap.size = g0 := ⟨_, rfl⟩
  rw [hwa] at hmk HST
  rw [hg0] at hmk HST
  have HF := Lib.hid (firstOrder wa)
  have HS := Lib.hid h
  have HN := Lib.hid hn
  have HIX := Lib.hid orderV_at
  clear h hn hwa hg0
  go_enter Try.func55, Try.ntmps55
  go_wp2_with fail
  refine HF.out.mono ?_
  rintro e w1 ⟨rfl, o1⟩
  have HST1 : Hid (Made 3 w (some ⟨g0, 0, none⟩) 0 19 (ints (toldTo f 0)) w1) := Lib.hid (⟨HST.out.1.only o1 (fun _ _ f => f), HST.out.2.1.trans o1, HST.out.2.2⟩)
  clear o1 HF HST hmk
  generalize orderV = OV at HIX ⊢
  go_wp2_with fail
  go_loopg [3, 10] 19 (fun gk v i wx => ∃ k g c : Nat, i = .int .i64 k ∧ v = .slice (some ⟨g, 0, none⟩) k c ∧ k + gk ≤ 19 ∧ 19 ≤ k + gk ∧ Hid (Made 3 w (some ⟨g, 0, none⟩) k c (ints (toldTo f k)) wx))
  case atStart => exact ⟨0, g0, 19, rfl, rfl, by omega, by omega, HST1⟩
  case round =>
    clear HST1
    obtain ⟨k, g, c, rfl, rfl, hk, hk2, HI⟩ := hrel
    by_cases hlt : k < 19
    · have hix := HIX.out k hlt wr
      have hsu := toldTo_succ f k hlt
      have ho := order_lt k
      obtain ⟨o, ho2⟩ : ∃ o, order.getD k 0 = o := ⟨_, rfl⟩
      rw [ho2] at hix hsu ho
      obtain ⟨b, off, rfl, _, hc0⟩ := (HS.out.new HI.out.2.1) o _ (ints_at f o (by rw [HN.out]; exact ho))
      obtain ⟨x, hx⟩ : ∃ x, ln f o = x := ⟨_, rfl⟩
      rw [hx] at hsu hc0
      have HSU := Lib.hid hsu
      clear hsu hx ho2
      go_wp2_with (at_builtin
                   refine wpList_append_row rfl (.tmp 13) (.tmp 18) 53 53 3 rfl Try.underlying53 info3 (some ⟨g, 0, none⟩) k c 1 (ints (toldTo f k)) [.int .i64 (x : Int)] (.slice (some ⟨wr.heap.size, 0, none⟩) 1 1) rfl rfl (HI.out.1.alloc _) rfl (Src.oneInt Try.underlying53 wr .i64 (x : Int) 1 3) (by omega) (by omega) ?_
                   intro A9 c9 w9 hrow9 honly9 hlies9
                   have H9 := Lib.hid (HI.out.snoc hrow9 honly9 hlies9)
                   clear hrow9 honly9 hlies9)
      obtain ⟨g9, h91, h92⟩ := H9.out
      rw [← HSU.out] at h92
      have H92 := Lib.hid h92
      subst h91
      clear H9 h92
      go_roundg (gk - 1)
      case measure => omega
      case rel => exact ⟨k + 1, g9, c9, by go_num, rfl, by omega, by omega, H92⟩
    · obtain rfl : k = 19 := by omega
      go_wp2
      go_ret
      exact ⟨g, c, rfl, HI.out⟩
end Go.Proofs.Ytjlkjebmilfgoaa
