/- Layer 9, the program: tokens of a text, by any way of looking. -/
import Derived.Test.YtgkplmjbjbikmaaNew
import Derived.Test.YtgkplmjbjbikmaaTrip
namespace Go.Proofs.Ytgkplmjbjbikmaa
open Go.RowKit

/-- Where the tokens of a text stand. -/
structure TB (w : World) (T N O : Nat) (s : ByteArray) (wd W : Nat) (t : St) (A : Option Addr) (n c : Nat) (ts : List Tk) (wx : World) : Prop where
  tr : Tr wx T N O s wd W t
  rs : Rs 47 3 wx A n c (tks ts)
  only : Only (Of T N O) w wx
  lies : ∀ j, Lies A j → w.heap.size ≤ j
  old : T < w.heap.size ∧ N < w.heap.size ∧ O < w.heap.size
section
variable {w wx wy : World} {T N O wd W n c n' c' : Nat} {s : ByteArray} {t t' : St} {A A' : Option Addr} {ts ts' : List Tk}
theorem TB.look (h : TB w T N O s wd W t A n c ts wx) (ht : Tr wy T N O s wd W t') (ho : Only (Of T N O) wx wy) : TB w T N O s wd W t' A n c ts wy := by
  refine ⟨ht, h.rs.only ho fun j hj hf => ?_, h.only.trans ho, h.lies, h.old⟩
  have h1 := h.lies j hj
  have h2 := h.old
  rcases hf with e | e | e <;> omega
theorem TB.append {o : Obj} (h : TB w T N O s wd W t A n c ts wx) (hr : Rs 47 3 wy A' n' c' (tks ts')) (ho : Only (Lies A) (wx.alloc o) wy) (ha : A' = A ∨ A' = some ⟨(wx.alloc o).heap.size, 0, none⟩) : TB w T N O s wd W t A' n' c' ts' wy := by
  have hl : ∀ j, j < w.heap.size → ¬ Lies A j := fun j hj hh => by have := h.lies j hh; omega
  have h2 := h.old
  refine ⟨(h.tr.new ((Only.refl _ wx).alloc o)).only ho (hl _ h2.1) (hl _ h2.2.1) (hl _ h2.2.2), hr, (h.only.alloc o).andThen ho fun j hj => .inr (h.lies j hj), fun j hj => ?_, h2⟩
  rcases ha with e1 | e1
  · exact h.lies j (e1 ▸ hj)
  · obtain ⟨ad, e2, e3⟩ := hj
    rw [e1] at e2
    obtain rfl := Option.some.inj e2
    have h1 := h.only.size
    have h2 : (wx.alloc o).heap.size = j := e3
    simp at h2
    omega
end
def TBPost (w : World) (T N O : Nat) (ts : List Tk) (e : Ending) (w' : World) : Prop := ∃ A c, e = .returned (.slice A ts.length c) ∧ Rs 47 3 w' A ts.length c (tks ts) ∧ Only (Of T N O) w w'

set_option maxHeartbeats 4000000 in
theorem tokensBy (T N O wd W K lvl : Nat) (s : ByteArray) (t : St) (w : World) (h : Tr w T N O s wd W t) (hk : t.kept = 0) (hs : s.size ≤ 1000000)
    (hK : ∀ (w1 : World) (t1 : St) (a : Nat), Tr w1 T N O s wd W t1 → a < s.size → t1.kept ≤ a → Calls Try.prog K #[.pointer (some ⟨T, 0, none⟩), .int .i64 a] w1 (SPost w1 T N O s wd W (look s.data.toList (markAt s.data.toList wd) lvl t1 a)))
    (eK : ∀ (args : Array Value) (w1 : World), (callFunc K args).run Try.prog w1 = .ok (.enter K args) w1) :
    Calls Try.prog 15 #[.string s, .func (.func K) #[.pointer (some ⟨T, 0, none⟩)] #[]] w (TBPost w T N O (toks s.data.toList (markAt s.data.toList wd) lvl s.size t 0)) := by
  have b1 : (s.size : Int) ≤ 1000000 := by omega
  have HT : Hid (TB w T N O s wd W t none 0 0 [] w) := Lib.hid ⟨h, Rs.nil _ _ _, Only.refl _ _, fun j hj => (by obtain ⟨ad, e, _⟩ := hj; cases e), ⟨h.it.lt, h.nn.lt, h.oo.lt⟩⟩
  obtain ⟨R, hR⟩ : ∃ R, toks s.data.toList (markAt s.data.toList wd) lvl s.size t 0 = R := ⟨_, rfl⟩
  rw [hR]
  have HR := Lib.hid hR
  have HK := Lib.hid hK
  clear h hK hR
  go_enter Try.func15, Try.ntmps15
  go_wp2_with fail
  go_loopg [5, 6, 7, 8] s.size (fun gk v i u7 u8 wx => ∃ (a n c : Nat) (A : Option Addr) (ts : List Tk) (t1 : St), i = .int .i64 a ∧ v = .slice A n c ∧ a ≤ s.size ∧ n ≤ a ∧ s.size ≤ a + gk ∧ t1.kept ≤ a ∧ Hid (ts.length = n ∧ ts ++ toks s.data.toList (markAt s.data.toList wd) lvl gk t1 a = R) ∧ Hid (TB w T N O s wd W t1 A n c ts wx))
  case atStart => exact ⟨0, 0, 0, none, [], t, rfl, rfl, by omega, by omega, by omega, by omega, Lib.hid ⟨rfl, HR.out⟩, HT⟩
  case round =>
    clear HT HR
    obtain ⟨a, n, c, A, ts, t1, rfl, rfl, ha, hna, hg, hk1, HR, HT⟩ := hrel
    by_cases hlt : a < s.size
    · have hlt2 : (a : Int) < (s.size : Int) := by omega
      obtain ⟨g, rfl⟩ : ∃ g, gk = g + 1 := ⟨gk - 1, by omega⟩
      obtain ⟨r, hr⟩ : ∃ r, look s.data.toList (markAt s.data.toList wd) lvl t1 a = r := ⟨_, rfl⟩
      obtain ⟨v1, v2, v3⟩ := look_valid (markAt s.data.toList wd) lvl a HT.out.tr.good hk1
      have v4 := v1.le
      have HL := Lib.hid hr
      rw [hr] at v1 v3 v4
      have HV := Lib.hid v1
      clear v1 v2 hr
      obtain ⟨⟨l, b⟩, t2⟩ := r
      simp only at v3 v4
      have v5 : l ≤ s.size - a := v4.1
      obtain ⟨x, hx⟩ : ∃ x, s[a]'hlt = x := ⟨_, rfl⟩
      have HX : Hid (s.data.toList.getD a 0 = x) := Lib.hid (by rw [← byte_at s a hlt, hx])
      go_upto_region 5 with fail
      refine (HK.out wr t1 a HT.out.tr hlt hk1).mono ?_
      rw [HL.out]
      rintro e w2 ⟨rfl, ht2, ho2⟩
      have HT2 := Lib.hid (HT.out.look ht2 ho2)
      clear ht2 ho2 HT
      by_cases h0 : l = 0
      · have HN : Hid ((ts ++ [Tk.mk x 0 0]).length = n + 1 ∧ (ts ++ [Tk.mk x 0 0]) ++ toks s.data.toList (markAt s.data.toList wd) lvl g t2 (a + 1) = R) := Lib.hid (by
          refine ⟨by rw [List.length_append, HR.out.1]; rfl, ?_⟩
          rw [← HR.out.2, toks, if_pos (show a < s.data.toList.length from hlt), HL.out, if_pos h0, HX.out, List.append_assoc]
          rfl)
        have g0 : ((l : Int) == 0) = true := by simp [h0]
        clear h0
        go_upto_region 6 with fail
        go_wp2_with (at_builtin
                     refine wpList_append_rs rfl (.tmp 21) (.tmp 26) 26 26 47 rfl Try.underlying26 info47 zero47 A n c (tks ts) [.int .u8 ((x).toNat : Nat), .int .i64 (0), .int .i64 (0)] (.slice (some ⟨w2.heap.size, 0, none⟩) 1 1) (by rfl) (by rfl) (HT2.out.rs.alloc _) (Src.oneTk w2 (x) (0) (0) 1 47) (by omega) (by omega) ?_
                     intro A3 c3 w3 hrow3 honly3 hlies3
                     have HR3 := Lib.hid hrow3
                     have HO3 := Lib.hid honly3
                     have HL3 := Lib.hid hlies3
                     clear hrow3 honly3 hlies3)
        have HT3 : Hid (TB w T N O s wd W t2 A3 (n + 1) c3 (ts ++ [Tk.mk x 0 0]) w3) := Lib.hid (HT2.out.append (by rw [← tks_snoc]; exact HR3.out) HO3.out HL3.out)
        go_roundg g
        case measure => omega
        case rel => exact ⟨a + 1, n + 1, c3, A3, _, t2, by go_num, rfl, by omega, by omega, by omega, v3, HN, HT3⟩
      · have HN : Hid ((ts ++ [Tk.mk 0 l b]).length = n + 1 ∧ (ts ++ [Tk.mk 0 l b]) ++ toks s.data.toList (markAt s.data.toList wd) lvl g t2 (a + l) = R) := Lib.hid (by
          refine ⟨by rw [List.length_append, HR.out.1]; rfl, ?_⟩
          rw [← HR.out.2, toks, if_pos (show a < s.data.toList.length from hlt), HL.out, if_neg h0, List.append_assoc]
          rfl)
        have g0 : ((l : Int) == 0) = false := by simp; omega
        have g1 : ¬ (l : Int) = 0 := by omega
        clear h0
        go_upto_region 8 with fail
        go_wp2_with (at_builtin
                     refine wpList_append_rs rfl (.tmp 30) (.tmp 34) 26 26 47 rfl Try.underlying26 info47 zero47 A n c (tks ts) [.int .u8 (((0 : UInt8)).toNat : Nat), .int .i64 ((l : Nat)), .int .i64 ((b : Nat))] (.slice (some ⟨w2.heap.size, 0, none⟩) 1 1) (by rfl) (by rfl) (HT2.out.rs.alloc _) (Src.oneTk w2 ((0 : UInt8)) ((l : Nat)) ((b : Nat)) 1 47) (by omega) (by omega) ?_
                     intro A3 c3 w3 hrow3 honly3 hlies3
                     have HR3 := Lib.hid hrow3
                     have HO3 := Lib.hid honly3
                     have HL3 := Lib.hid hlies3
                     clear hrow3 honly3 hlies3)
        have HT3 : Hid (TB w T N O s wd W t2 A3 (n + 1) c3 (ts ++ [Tk.mk 0 l b]) w3) := Lib.hid (HT2.out.append (by rw [← tks_snoc]; exact HR3.out) HO3.out HL3.out)
        go_roundg g
        case measure => omega
        case rel => exact ⟨a + l, n + 1, c3, A3, _, t2, by go_num, rfl, by omega, by omega, by omega, by omega, HN, HT3⟩
    · have HX : Hid (ts = R) := Lib.hid (by
        rw [← HR.out.2]
        cases gk with
        | zero => rw [toks, List.append_nil]
        | succ g => rw [toks, if_neg (show ¬ a < s.data.toList.length from hlt), List.append_nil])
      have hlt2 : ¬ (a : Int) < (s.size : Int) := by omega
      go_wp2
      go_ret
      rw [← HX.out]
      unfold TBPost
      rw [HR.out.1]
      exact ⟨A, c, rfl, HT.out.rs, HT.out.only⟩
end Go.Proofs.Ytgkplmjbjbikmaa
