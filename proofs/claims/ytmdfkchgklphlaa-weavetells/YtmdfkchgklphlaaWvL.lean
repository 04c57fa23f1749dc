/- Layer 16: the laws, over whatever the program's calls answer: what they are asked, small rows, the two rows of the law's own. -/
import Derived.Test.YtmdfkchgklphlaaWvB
import Derived.Test.YtmdfkchgklphlaaGRange
namespace Go.Proofs.Ytmdfkchgklphlaa
open Go.RowKit

def smallW (rs : List TRow) : Prop := rs.length ≤ 8 ∧ ∀ r ∈ rs, r.xs.length ≤ 20 ∧ ∀ x ∈ r.xs, x.length ≤ 60
theorem smallW.tin {rs : List TRow} (h : smallW rs) : TIn rs := ⟨by have := h.1; omega, fun r hr => ⟨by have := (h.2 r hr).1; omega, fun x hx => by have := (h.2 r hr).2 x hx; omega⟩⟩
/-- What is answered: texts. -/
def SeesP (w : World) (U : List (List UInt8)) (e : Ending) (w' : World) : Prop := (∃ A c B, e = .returned (.slice A U.length c) ∧ See w' B A (strs U)) ∧ Only (fun _ => False) w w'
/-- What the i-th round is handed: the i-th text, and a slice that reads as its places. -/
def RoundX (rs : List TRow) (i : Nat) (W : World) (args : Array Value) : Prop := ∃ A c B, args = #[.string (tx ((unionF (txts rs)).getD i [])), .slice A (placesF (txts rs) ((unionF (txts rs)).getD i [])).length c] ∧ See W B A (ints (placesF (txts rs) ((unionF (txts rs)).getD i [])))
/-- The program's calls. -/
structure WvC (G : World → Prop) : Prop where
  keep : ∀ w w', G w → Only (fun _ => False) w w' → G w'
  union : ∀ A n c B rs w, G w → Rows2 w B A rs → rs.length = n → smallW rs → Calls Try.prog 9 #[.slice A n c] w (SeesP w (unionF (txts rs)))
  common : ∀ A n c B rs w, G w → Rows2 w B A rs → rs.length = n → smallW rs → Calls Try.prog 10 #[.slice A n c] w (SeesP w (commonF (txts rs)))
  weave : ∀ A n c B rs w, G w → Rows2 w B A rs → rs.length = n → smallW rs → B ≤ w.heap.size → Calls Try.prog 12 #[.slice A n c] w fun e w' =>
    (∃ gf lb, e = .returned (.func (.func gf) #[] lb) ∧ (∀ args w, (callFunc gf args).run Try.prog w = .ok (.enter gf args) w) ∧ SeqR Try.prog G gf lb (unionF (txts rs)).length (RoundX rs) B w.heap.size w') ∧ Only (fun _ => False) w w'

set_option maxHeartbeats 4000000 in
theorem lsmall (A : Option Addr) (n c B : Nat) (rs : List TRow) (w : World) (h : Rows2 w B A rs) (hn : rs.length = n) : Calls Try.prog 6 #[.slice A n c, .int .i64 8] w fun e w' => (∃ b, e = .returned (.bool b) ∧ (b = true → smallW rs)) ∧ w' = w := by
  have HS := Lib.hid h
  have HN := Lib.hid hn
  clear h hn
  by_cases hb : 8 < n
  · have hb2 : (8 : Int) < (n : Int) := by omega
    go_enter Try.func6, Try.ntmps6
    go_wp2
    go_ret
    exact ⟨⟨_, rfl, fun g => by cases g⟩, rfl⟩
  · have hb2 : ¬ (8 : Int) < (n : Int) := by omega
    go_enter Try.func6, Try.ntmps6
    go_wp2_with fail
    go_loopg [15] n (fun gk u wx => ∃ i : Nat, u = .int .i64 i ∧ i + gk = n ∧ wx = w ∧ Hid (∀ r ∈ rs.take i, r.xs.length ≤ 20 ∧ ∀ x ∈ r.xs, x.length ≤ 60))
    case atStart => exact ⟨0, rfl, by omega, rfl, Lib.hid (by simp)⟩
    case round =>
      obtain ⟨i, rfl, hi, rfl, HX⟩ := hrel
      by_cases hlt : i < n
      · have l3 : (i : Int) < (n : Int) := by omega
        have hlt2 : i < rs.length := by rw [HN.out]; exact hlt
        obtain ⟨b, o, rfl, d0⟩ := HS.out.at hlt2
        have hmem := getD_in tr0 rs i hlt2
        have HR := Lib.hid (HS.out.2 _ hmem)
        have HTK := Lib.hid (take_next tr0 rs i hlt2)
        clear hmem hlt2
        generalize rs.getD i tr0 = r at d0 HR HTK
        obtain ⟨RA, RN, RC, xs⟩ := r
        have hxl := HR.out.2
        simp only at HR d0 hxl
        by_cases hc : 20 < RN
        · have hc2 : (20 : Int) < (RN : Int) := by omega
          go_wp2
          go_ret
          exact ⟨⟨_, rfl, fun g => by cases g⟩, rfl⟩
        · have hc2 : ¬ (20 : Int) < (RN : Int) := by omega
          go_wp2_with fail
          go_loopg [24] RN (fun gk u wy => ∃ k : Nat, u = .int .i64 k ∧ k + gk = RN ∧ wy = wr ∧ Hid (∀ x ∈ xs.take k, x.length ≤ 60))
          case atStart => exact ⟨0, rfl, by omega, rfl, Lib.hid (by simp)⟩
          case round =>
            obtain ⟨k, rfl, hk, rfl, HY⟩ := hrel
            by_cases hlk : k < RN
            · have l4 : (k : Int) < (RN : Int) := by omega
              have hlk2 : k < xs.length := by omega
              obtain ⟨b2, o2, e2, d1⟩ := See.str HR.out.1 hlk2
              subst e2
              have HTX := Lib.hid (take_next [] xs k hlk2)
              clear hlk2
              generalize xs.getD k [] = x at d1 HTX
              have hz : (tx x).size = x.length := tx_size x
              obtain ⟨X, hX⟩ : ∃ X, x.length = X := ⟨_, rfl⟩
              rw [hX] at hz
              by_cases hd : 60 < X
              · have hd2 : (60 : Int) < (X : Int) := by omega
                clear hX
                go_wp2
                go_ret
                exact ⟨⟨_, rfl, fun g => by cases g⟩, rfl⟩
              · have hd2 : ¬ (60 : Int) < (X : Int) := by omega
                have HY2 : Hid (∀ x ∈ xs.take (k + 1), x.length ≤ 60) := Lib.hid (by
                  rw [HTX.out]
                  intro y hy
                  rw [List.mem_append, List.mem_singleton] at hy
                  rcases hy with hy | hy
                  · exact HY.out y hy
                  · rw [hy]
                    omega)
                clear hX
                go_wp2_with fail
                go_roundg (RN - (k + 1))
                case measure => omega
                case rel => exact ⟨k + 1, by go_num, by omega, rfl, HY2⟩
            · have hk2 : k = RN := by omega
              subst hk2
              have HX2 : Hid (∀ r ∈ rs.take (i + 1), r.xs.length ≤ 20 ∧ ∀ x ∈ r.xs, x.length ≤ 60) := Lib.hid (by
                rw [HTK.out]
                intro r hr
                rw [List.mem_append, List.mem_singleton] at hr
                rcases hr with hr | hr
                · exact HX.out r hr
                · rw [hr]
                  refine ⟨by simp only; omega, fun x hx => HY.out x ?_⟩
                  rw [List.take_of_length_le (by omega)]
                  exact hx)
              go_wp2_with fail
              go_roundg (n - (i + 1))
              case measure => omega
              case rel => exact ⟨i + 1, by go_num, by omega, rfl, HX2⟩
      · have hin : i = n := by omega
        subst hin
        go_wp2
        go_ret
        refine ⟨⟨_, rfl, fun _ => ⟨by rw [HN.out]; omega, ?_⟩⟩, rfl⟩
        have := HX.out
        rw [List.take_of_length_le (by rw [HN.out]; exact Nat.le_refl _)] at this
        exact this
end Go.Proofs.Ytmdfkchgklphlaa
