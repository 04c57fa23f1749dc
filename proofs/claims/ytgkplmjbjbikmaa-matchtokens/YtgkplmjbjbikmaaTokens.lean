/- Layer 9, the program: tokens of a text at a level; how many bytes tokens say. -/
import Derived.Test.YtgkplmjbjbikmaaToks
namespace Go.Proofs.Ytgkplmjbjbikmaa
open Go.RowKit

/-- Which function looks for matches at a level. -/
def IsWay (lvl K : Nat) : Prop := (lvl = 0 ∧ K = 23) ∨ (lvl = 1 ∧ K = 20) ∨ (lvl = 2 ∧ K = 21) ∨ (lvl = 3 ∧ K = 22)
theorem isWay (lvl : Nat) (h : lvl ≤ 3) : ∃ K, IsWay lvl K := by
  unfold IsWay
  match lvl, h with
  | 0, _ => exact ⟨23, .inl ⟨rfl, rfl⟩⟩
  | 1, _ => exact ⟨20, .inr (.inl ⟨rfl, rfl⟩)⟩
  | 2, _ => exact ⟨21, .inr (.inr (.inl ⟨rfl, rfl⟩))⟩
  | 3, _ => exact ⟨22, .inr (.inr (.inr ⟨rfl, rfl⟩))⟩
theorem way (T lvl K : Nat) (w : World) (h : IsWay lvl K) : Calls Try.prog 17 #[.pointer (some ⟨T, 0, none⟩), .int .i64 lvl] w fun e w' => e = .returned (.func (.func K) #[.pointer (some ⟨T, 0, none⟩)] #[]) ∧ w = w' := by
  have hmf : ∀ (fn : Fn) (first cap : Array Value) (w : World), (Instr.makeFunc fn first cap).run Try.prog w = .ok (.func fn first cap) w := fun _ _ _ _ => rfl
  rcases h with ⟨rfl, rfl⟩ | ⟨rfl, rfl⟩ | ⟨rfl, rfl⟩ | ⟨rfl, rfl⟩
  · go_enter Try.func17, Try.ntmps17
    go_wp2
    go_ret
    exact ⟨rfl, rfl⟩
  · go_enter Try.func17, Try.ntmps17
    go_wp2
    go_ret
    exact ⟨rfl, rfl⟩
  · go_enter Try.func17, Try.ntmps17
    go_wp2
    go_ret
    exact ⟨rfl, rfl⟩
  · go_enter Try.func17, Try.ntmps17
    go_wp2
    go_ret
    exact ⟨rfl, rfl⟩
theorem way_enters (lvl K : Nat) (h : IsWay lvl K) (args : Array Value) (w : World) : (callFunc K args).run Try.prog w = .ok (.enter K args) w := by
  rcases h with ⟨_, rfl⟩ | ⟨_, rfl⟩ | ⟨_, rfl⟩ | ⟨_, rfl⟩ <;> kernel_rfl
theorem way_looks (lvl K T N O wd W : Nat) (s : ByteArray) (h : IsWay lvl K) (w1 : World) (t1 : St) (a : Nat) (ht : Tr w1 T N O s wd W t1) (ha : a < s.size) (hk : t1.kept ≤ a) :
    Calls Try.prog K #[.pointer (some ⟨T, 0, none⟩), .int .i64 a] w1 (SPost w1 T N O s wd W (look s.data.toList (markAt s.data.toList wd) lvl t1 a)) := by
  rcases h with ⟨rfl, rfl⟩ | ⟨rfl, rfl⟩ | ⟨rfl, rfl⟩ | ⟨rfl, rfl⟩
  · exact noneC T N O a wd W s t1 w1 ht
  · exact latest T N O a wd W s t1 w1 ht (by omega) hk
  · exact longest T N O a wd W s t1 w1 ht (by omega) hk
  · exact patientC T N O a wd W s t1 w1 ht (by omega) hk

/-- The tokens that are answered: by marks of some width. -/
def toksOf (s : ByteArray) (wd lvl : Nat) : List Tk := toks s.data.toList (markAt s.data.toList wd) lvl s.size (st0 (2 ^ wd) s.size) 0
def TokPost (w : World) (s : ByteArray) (lvl : Nat) (e : Ending) (w' : World) : Prop :=
  ∃ wd A c, wd ≤ 15 ∧ e = .returned (.tuple #[.slice A (toksOf s wd lvl).length c, .int .i64 0]) ∧ Rs 47 3 w' A (toksOf s wd lvl).length c (tks (toksOf s wd lvl)) ∧ Only (fun _ => False) w w'

set_option maxHeartbeats 2000000 in
theorem tokens (s : ByteArray) (lvl : Nat) (w : World) (hs : s.size ≤ 1000000) (hl : lvl ≤ 3) : Calls Try.prog 9 #[.string s, .int .i64 lvl] w (TokPost w s lvl) := by
  have b1 : (s.size : Int) ≤ 1000000 := by omega
  have b2 : (lvl : Int) ≤ 3 := by omega
  obtain ⟨K, hK⟩ := isWay lvl hl
  have HK := Lib.hid hK
  clear hK
  go_enter Try.func9, Try.ntmps9
  go_wp2_with (first
    | (go_at_call 16; refine (newTrail s _ (by omega)).mono ?_; rintro e w1 ⟨T, N, O, wd, W, rfl, ht, ho, hT, hN, hO⟩; have HT := Lib.hid ht; have HO := Lib.hid ho; have HP := Lib.hid (And.intro hT (And.intro hN hO)); clear ht ho hT hN hO)
    | (go_at_call 17; refine (way T lvl K _ HK.out).mono ?_; rintro e w2 ⟨rfl, rfl⟩)
    | (go_at_call 15; refine (tokensBy T N O wd W K lvl s _ _ HT.out rfl hs (fun w1 t1 a => way_looks lvl K T N O wd W s HK.out w1 t1 a) (way_enters lvl K HK.out)).mono ?_; rintro e w3 ⟨A, c, rfl, hr, ho⟩; have HR := Lib.hid hr; have HO3 := Lib.hid ho; clear hr ho))
  go_ret2
  refine ⟨wd, A, c, HT.out.w1, ?_, ?_, HO.out.andThen HO3.out fun j hj => .inr ?_⟩
  · unfold toksOf
    rw [HT.out.w2]
    rfl
  · unfold toksOf
    rw [HT.out.w2]
    exact HR.out
  · have h1 := HP.out
    rcases hj with e | e | e <;> omega
theorem tokens_no (s : ByteArray) (lvl : Int) (w : World) (hl : lvl < 0 ∨ 3 < lvl) : Calls Try.prog 9 #[.string s, .int .i64 lvl] w fun e w' => e = .returned (.tuple #[.slice none 0 0, .int .i64 1]) ∧ Only (fun _ => False) w w' := by
  by_cases h : lvl < 0
  · clear hl
    go_enter Try.func9, Try.ntmps9
    go_wp2
    go_ret2
    exact ⟨rfl, Only.refl _ _⟩
  · have h2 : 3 < lvl := by omega
    clear hl
    go_enter Try.func9, Try.ntmps9
    go_wp2
    go_ret2
    exact ⟨rfl, Only.refl _ _⟩

theorem sumT_append (a b : List Tk) : sumT (a ++ b) = sumT a + sumT b := by
  induction a with
  | nil => simp [sumT]
  | cons x r ih => rw [List.cons_append, sumT, sumT, ih]; omega
theorem take_next {α : Type} (l : List α) (j : Nat) (t : α) (h : l[j]? = some t) : l.take (j + 1) = l.take j ++ [t] := by
  rw [List.take_add_one, h]
  rfl

set_option maxHeartbeats 4000000 in
theorem size (A : Option Addr) (n c B : Nat) (ts : List Tk) (w : World) (h : See w B A (tks ts)) (hn : ts.length = n) (h60 : n ≤ 1000000) : Calls Try.prog 11 #[.slice A n c] w fun e w' => e = .returned (.int .i64 (sumT ts)) ∧ Only (fun _ => False) w w' := by
  have HS := Lib.hid h
  have HN := Lib.hid hn
  clear h hn
  go_enter Try.func11, Try.ntmps11
  go_wp2_with fail
  go_loopg [3, 5, 8] n (fun gk v u5 i wx => ∃ (j : Nat) (S : Int), i = .int .i64 j ∧ v = .int .i64 S ∧ j + gk ≤ n ∧ n ≤ j + gk ∧ 0 ≤ S ∧ S ≤ 258 * j ∧ Hid (sumT (ts.take j) = S) ∧ Hid (Only (fun _ => False) w wx))
  case atStart => exact ⟨0, 0, rfl, rfl, by omega, by omega, by omega, by omega, Lib.hid rfl, Lib.hid (Only.refl _ w)⟩
  case round =>
    obtain ⟨j, S, rfl, rfl, hg1, hg2, hS1, hS2, HX, HO⟩ := hrel
    by_cases hlt : j < n
    · obtain ⟨t, ht⟩ : ∃ t, ts[j]? = some t := ⟨ts[j]'(by rw [HN.out]; exact hlt), by simp [HN.out, hlt]⟩
      obtain ⟨b0, off, rfl, _, c0, c1, c2⟩ := (HS.out.new HO.out).token j t ht
      obtain ⟨b, tn, tk⟩ := t
      simp only at c0 c1 c2
      obtain ⟨v, hv⟩ : ∃ v : Int, max 1 (min tn 258) = v := ⟨_, rfl⟩
      have hv1 : 1 ≤ v ∧ v ≤ 258 := by omega
      have HXN : Hid (sumT (ts.take (j + 1)) = S + v) := Lib.hid (by rw [take_next ts j _ ht, sumT_append, HX.out]; simp only [sumT]; omega)
      clear ht
      go_upto_region 5 with fail
      obtain ⟨wa, hwa⟩ : ∃ wa, wr.alloc (.cells #[.int .u8 b.toNat, .int .i64 tn, .int .i64 tk] 47) = wa := ⟨_, rfl⟩
      obtain ⟨g, hg⟩ : ∃ g, wr.heap.size = g := ⟨_, rfl⟩
      have hIa : Is wa g 47 (tkc ⟨b, tn, tk⟩) := by rw [← hwa, ← hg]; exact Is.new wr 47 _
      have HOa : Hid (Only (fun _ => False) w wa) := Lib.hid (hwa ▸ HO.out.alloc _)
      have ca1 := hIa.cell 1 rfl
      rw [hwa, hg]
      clear hwa hg hIa HO c0 c1 c2 HX
      go_wp2_with fail
      trace_state
      go_roundg (gk - 1)
      case measure => omega
      case rel => exact ⟨j + 1, S + v, by go_num, rfl, by omega, by omega, by omega, by omega, HXN, HOa⟩
    · obtain rfl : j = n := by omega
      have HF : Hid (sumT ts = S) := Lib.hid (by rw [← HX.out, List.take_of_length_le (by rw [HN.out]; exact Nat.le_refl _)])
      go_wp2
      go_ret
      rw [HF.out]
      exact ⟨rfl, HO.out⟩
end Go.Proofs.Ytgkplmjbjbikmaa
