/- Layer 5: Check, in the program and in the document: which code lengths make. -/
import Derived.Test.YtackcgiokkbhdaaDoorCount
import Derived.Test.YtackcgiokkbhdaaDoorSteps
namespace Go.Proofs.YtackcgiokkbhdaaDoor
open Go.RowKit

/-- What Check answers, in the program and in the document. -/
def CheckPost (w : World) (k e : Nat) (x : Ending) (w' : World) : Prop := x = .returned (.tuple #[.int .i64 k, .int .i64 e]) ∧ Only (fun _ => False) w w'

theorem check_no (A : Option Addr) (n c B : Nat) (z : List Int) (w : World) (h : See w B A (zints z)) (hn : z.length = n) (h300 : n ≤ 300) (hz : ¬ Okay z) :
    Calls Tryd.prog 86 #[.slice A n c] w (CheckPost w 0 1) := by
  have HC := Lib.hid (allowed_no A n c B z w h hn h300 hz)
  clear h hn hz
  go_enter Tryd.func86, Tryd.ntmps86
  go_wp2_with fail
  refine HC.out.mono ?_
  rintro e w' ⟨rfl, rfl⟩
  go_wp2
  go_ret2
  exact ⟨rfl, Only.refl _ _⟩

set_option maxHeartbeats 1000000 in
theorem check_yes (A : Option Addr) (n c B : Nat) (l : List Nat) (w : World) (h : See w B A (ints l)) (hn : l.length = n) (h288 : n ≤ 288) (hl : Low l) :
    Calls Tryd.prog 86 #[.slice A n c] w (CheckPost w (kd l).1 (kd l).2) := by
  have HC := Lib.hid (allowed_yes A n c B l w h hn h288 hl)
  have HC2 := Lib.hid (count A n c B l w h hn h288 hl)
  have HU := Lib.hid fun w => used l w (by omega)
  have HF := Lib.hid fun w => howFull l w (by omega)
  have hk := kd_cases l hl
  clear h hl
  go_enter Tryd.func86, Tryd.ntmps86
  go_wp2_with fail
  refine HC.out.mono ?_
  rintro e w' ⟨rfl, rfl⟩
  go_wp2_with fail
  refine HC2.out.mono ?_
  rintro e w1 ⟨rfl, ho1⟩
  obtain ⟨cs, hcs⟩ : ∃ cs, ints (cnts l) = cs := ⟨_, rfl⟩
  have hlen : cs.length = 16 := by rw [← hcs, ints_length, cnts_length]
  have hone : ∀ v ∈ cs, v.oneCell' = true := by rw [← hcs]; exact ints_one _
  rw [hcs] at HU HF ⊢
  have HO1 := Lib.hid ho1
  have HLn := Lib.hid hlen
  have HON := Lib.hid hone
  clear hcs ho1 HC HC2 hlen hone
  go_wp2_with ((with_reducible show wpList _ _ _ (Oper.mk _ (Op.store _ _ _) _ _ _ _ :: _) _ _); refine wpList_store_is rfl 142 (.tmp 4) (.tmp 11) rfl w1.heap.size cs rfl rfl 142 _ (Is.new w1 142 (List.replicate 16 (.int .i64 0))) (by rw [HLn.out]; exact info142) (by rw [HLn.out]; rfl) HON.out ?_; intro w2 hi2 ho2; have HI2 := Lib.hid hi2; have HO2 := Lib.hid ho2; clear hi2 ho2)
  refine Steps.region (fun W => Is W w1.heap.size 142 cs) [(true, 0), (true, 2), (false, 1), (false, 3), (true, 4), (true, 5)] (by kernel_rfl) (by kernel_rfl) rfl (by kernel_rfl) (fun _ _ d _ _ h => by cases d <;> exact h) ?_
  refine Steps.take (.agg cs.toArray) rfl HI2.out (fun W hW => yields_load 142 (.tmp 4) rfl w1.heap.size rfl 142 cs Tryd.underlying142 (by rw [HLn.out]; exact info142) W hW) ?_
  refine Steps.take (.agg cs.toArray) rfl HI2.out (fun W hW => yields_load 142 (.tmp 4) rfl w1.heap.size rfl 142 cs Tryd.underlying142 (by rw [HLn.out]; exact info142) W hW) ?_
  refine Steps.call 101 #[.agg cs.toArray] rfl (by kernel_rfl) ((HU.out w2.drew).mono ?_)
  rintro e w3 ⟨rfl, ho3⟩
  refine ⟨_, rfl, HI2.out.drew.only ho3 id, ?_⟩
  refine Steps.call 102 #[.agg cs.toArray] rfl (by kernel_rfl) ((HF.out w3).mono ?_)
  rintro e w4 ⟨rfl, ho4⟩
  have hi4 := (HI2.out.drew.only ho3 id).only ho4 id
  refine ⟨_, rfl, hi4, ?_⟩
  refine Steps.take _ rfl hi4 (fun _ _ => rfl) ?_
  refine Steps.take _ rfl hi4 (fun _ _ => rfl) ?_
  show wpList _ _ _ _ _ _
  have hoo : Only (fun _ => False) w w4 := ((((HO1.out.alloc _).andThen HO2.out fun j hj => .inr (hj ▸ HO1.out.size)).drew).trans ho3).trans ho4
  have HOO := Lib.hid hoo
  clear hoo HO1 HO2 HU HF ho3 ho4 hi4 HI2
  rcases hk with ⟨h1, h2, h3⟩ | ⟨h1, h2, h3⟩ | ⟨h1, h2, h3⟩ | ⟨h1, h2, h4, h3⟩
  all_goals
    have H3 := Lib.hid h3
    clear h3
  · obtain ⟨s, hs⟩ : ∃ s, st l 16 = s := ⟨_, rfl⟩
    rw [hs] at h2 ⊢
    rw [h1]
    clear h1 hs
    go_wp2
    go_ret2
    exact ⟨by rw [H3.out]; rfl, HOO.out⟩
  · rw [h1, h2]
    clear h1 h2
    go_wp2
    go_ret2
    exact ⟨by rw [H3.out]; rfl, HOO.out⟩
  · rw [h1, h2]
    clear h1 h2
    go_wp2
    go_ret2
    exact ⟨by rw [H3.out]; rfl, HOO.out⟩
  · obtain ⟨s, hs⟩ : ∃ s, st l 16 = s := ⟨_, rfl⟩
    obtain ⟨f, hf⟩ : ∃ f, fu l 16 = f := ⟨_, rfl⟩
    rw [hs] at h2 h4 ⊢
    rw [hf] at h1 h2 ⊢
    have h5 : ¬ (f : Int) = 32768 := by omega
    have h6 : ¬ (s : Int) = 0 := by omega
    clear hs hf
    by_cases h7 : s = 1
    · have h8 : ¬ (f : Int) = 16384 := by omega
      subst h7
      go_wp2
      go_ret2
      exact ⟨by rw [H3.out]; rfl, HOO.out⟩
    · have h8 : ¬ (s : Int) = 1 := by omega
      go_wp2
      go_ret2
      exact ⟨by rw [H3.out]; rfl, HOO.out⟩
end Go.Proofs.YtackcgiokkbhdaaDoor
