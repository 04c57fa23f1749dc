/- Layer 4: the program's Hex and Short. -/
import Derived.Test.YtohocbfmjcfdgaaDoorOut
namespace Go.Proofs.YtohocbfmjcfdgaaDoor
open Go.RowKit

/-- append inside a region that draws its order. -/
theorem step_append_row {P : Program} {k : IntKind} {B : Nat} {w : World} {ops : Array Oper} {o : Oper} {a : Act} {K : Act → World → Prop} {Q : Exit → Act → World → Prop} {E : Prop} (hgd : o.guard = none) (s x : Operand) (t tx e : TypeId)
    (ho : o.op = .call { callee := .builtin .append, args := #[s, x], argTypes := #[t, tx] }) (ht : P.underlying t = some (.slice e))
    (hi : (P.info? e).map (fun i => (i.zero, i.size, i.bytes)) = some (some (.int k 0), 1, B)) (A : Option Addr) (n c m : Nat) (l r : List Value) (y : Value) (hsv : a.eval s = .slice A n c) (hxv : a.eval x = y)
    (h : Row e w A n c l) (hr : r.length = m) (hs : Src P 1 tx y m r w) (hB : B ≤ 8) (hb : n + m ≤ 1099511627776)
    (hk : ∀ A' c' w', Row e w' A' (n + m) c' (l ++ r) → Only (Lies A) w w' → (A' = A ∨ A' = some ⟨w.heap.size, 0, none⟩) → K (a.put o.dst (.slice A' (n + m) c')) w') :
    if Region.wanted o (yielded ops a.tmps) = true then Oper.wp P o a w K Q else E := by
  have hw : Region.wanted o (yielded ops a.tmps) = true := by simp [Region.wanted, hgd]
  rw [if_pos hw]
  obtain ⟨A', c', w', hrun, h2, h3, h4⟩ := run_append_row (ty := o.type) ht hi h hr hs hB hb
  unfold Oper.wp execOp
  simp only [ho, resolve, invoke, builtin, Sem.run_bind, Sem.run_pure, Result.andThen_ok, List.map_toArray, List.map_cons, List.map_nil, hsv, hxv, hrun]
  exact hk A' c' w' h2 h3 h4
theorem Made.drewN {e : TypeId} {w wx : World} {A : Option Addr} {n c : Nat} {l : List Value} (h : Made e w A n c l wx) (k : Nat) : Made e w A n c l (wx.drewN k) := ⟨h.1.drewN k, h.2.1.drewN k, h.2.2⟩
theorem Made.drew {e : TypeId} {w wx : World} {A : Option Addr} {n c : Nat} {l : List Value} (h : Made e w A n c l wx) : Made e w A n c l wx.drew := ⟨h.1.drew, h.2.1.drew, h.2.2⟩

def sixteen : ByteArray := ⟨#[48, 49, 50, 51, 52, 53, 54, 55, 56, 57, 97, 98, 99, 100, 101, 102]⟩
theorem index16 (p : Nat) (h : p < 16) (W : World) : (Instr.index 9 (.string ⟨#[48, 49, 50, 51, 52, 53, 54, 55, 56, 57, 97, 98, 99, 100, 101, 102]⟩) (.int .u8 (p : Int))).run Tryd.prog W = .ok (.int .u8 ((digit p).toNat : Int)) W := by
  obtain rfl | rfl | rfl | rfl | rfl | rfl | rfl | rfl | rfl | rfl | rfl | rfl | rfl | rfl | rfl | rfl : p = 0 ∨ p = 1 ∨ p = 2 ∨ p = 3 ∨ p = 4 ∨ p = 5 ∨ p = 6 ∨ p = 7 ∨ p = 8 ∨ p = 9 ∨ p = 10 ∨ p = 11 ∨ p = 12 ∨ p = 13 ∨ p = 14 ∨ p = 15 := by omega
  all_goals kernel_rfl
theorem hex_more (l : List UInt8) (k : Nat) (b : UInt8) (h : l[k]? = some b) : hexOf (l.take (k + 1)) = hexOf (l.take k) ++ [digit (b.toNat / 16), digit (b.toNat % 16)] := by
  unfold hexOf
  rw [List.take_add_one, List.flatMap_append, h]
  simp
theorem low4 (c : UInt8) : bits .and .u8 (c.toNat : Int) 15 = ((c.toNat % 16 : Nat) : Int) := by
  have e := u8_and_nat c.toNat 15 c.toNat_lt (by decide)
  rw [nat_mask4] at e
  exact e
theorem sha_length (l : List UInt8) : (sha l).length = 32 := rfl
def HexPost (w : World) (l : List UInt8) (e : Ending) (w' : World) : Prop := e = .returned (.string ⟨(hexOf (sha l)).toArray⟩) ∧ Only (fun _ => False) w w'

set_option maxHeartbeats 1000000 in
theorem hex (s : ByteArray) (w : World) (hs : s.size ≤ 1073741824) (hT : Tab w) : Calls Tryd.prog 8 #[.string s] w (HexPost w s.data.toList) := by
  have C := of s w hs hT
  unfold OfPost at C
  have hl := sha_length s.data.toList
  obtain ⟨K, hK⟩ : ∃ K, sha s.data.toList = K := ⟨_, rfl⟩
  rw [hK] at C hl
  have HC := Lib.hid C
  have HK := Lib.hid hK
  clear C hT hK
  obtain ⟨T, hT⟩ : ∃ T : ByteArray, (⟨K.toArray⟩ : ByteArray) = T := ⟨_, rfl⟩
  have hTd : T.data.toList = K := by rw [← hT]
  have hTs : T.size = 32 := by rw [← hT]; simpa [ByteArray.size] using hl
  rw [hT] at HC
  clear hT
  go_enter Tryd.func8, Tryd.ntmps8
  go_wp2_with fail
  refine HC.out.mono ?_
  rintro x w1 ⟨rfl, hO1⟩
  obtain ⟨c1, w2, hcv, hM1⟩ := run_bytes (P := Tryd.prog) Tryd.underlying9 Tryd.underlying28 Tryd.underlying5 T w1 (by omega)
  rw [hTs] at hcv hM1
  rw [hTd] at hM1
  have HO1 := Lib.hid hO1
  have HM1 := Lib.hid hM1
  clear hO1 HC hM1 hTd hTs
  go_wp2_with fail
  obtain ⟨g, hg⟩ : ∃ g, w1.heap.size = g := ⟨_, rfl⟩
  rw [hg] at HM1 ⊢
  clear hcv hg
  go_loopg [3, 10] 32 (fun gk v i wx => ∃ (k m : Nat) (A : Option Addr) (c : Nat), i = .int .i64 k ∧ v = .slice A m c ∧ m = 2 * k ∧ k + gk ≤ 32 ∧ 32 ≤ k + gk ∧ Made 5 w2 A m c (bcells (hexOf (K.take k))) wx)
  case atStart => exact ⟨0, 0, none, 0, rfl, rfl, rfl, by omega, by omega, Row.nil 5 w2, Only.refl _ w2, by rintro j ⟨ad, e, _⟩; cases e⟩
  case round =>
    obtain ⟨k, m, A, c, rfl, rfl, hm, hk, hk2, hM⟩ := hrel
    have HM := Lib.hid hM
    have HMM := Lib.hid hm
    clear hM hm
    by_cases hlt : k < 32
    · have hkl : k < K.length := by omega
      obtain ⟨b, hb⟩ : ∃ b, K[k]? = some b := ⟨_, List.getElem?_eq_getElem hkl⟩
      have hmore := hex_more K k b hb
      obtain ⟨g', e1, d1, _⟩ := (HM1.out.1.only HM.out.2.1 (fun _ _ f => f)).cell (i := k) (v := .int .u8 b.toNat) (by simp [bcells, hb])
      simp only [Option.some.injEq, Addr.mk.injEq, and_true] at e1
      subst e1
      have hbl := b.toNat_lt
      have g1 := low4 b
      have g2 : (b.toNat : Int) / 16 = ((b.toNat / 16 : Nat) : Int) := by omega
      have j1 := index16 (b.toNat / 16) (by omega)
      have j2 := index16 (b.toNat % 16) (by omega)
      obtain ⟨p, hp⟩ : ∃ p, b.toNat / 16 = p := ⟨_, rfl⟩
      obtain ⟨q, hq⟩ : ∃ q, b.toNat % 16 = q := ⟨_, rfl⟩
      rw [hp] at g2 j1 hmore
      rw [hq] at g1 j2 hmore
      have hpl : p < 16 := by omega
      have hql : q < 16 := by omega
      have HMORE := Lib.hid hmore
      clear hmore hb hp hq
      have hml : m ≤ 64 := by have := HMM.out; omega
      go_wp2_with fail
      go_region_law (first
        | (refine step_append_row (by rfl) (.tmp 14) (.tmp 21) 28 28 5 (by rfl) Tryd.underlying28 info5 A m c 2 _ [.int .u8 (digit p).toNat, .int .u8 (digit q).toNat] (.slice (some ⟨wr.heap.size, 0, none⟩) 2 2) (by rfl) (by rfl) (HM.out.drew.1.alloc _) rfl (Src.news Tryd.underlying28 wr.drew _ 2 2 5 rfl (by simp [Value.oneCell'])) (by omega) (by omega) ?_
           intro A2 c2 w3 hrow2 honly2 hlies2
           have HM2 := Lib.hid (HM.out.drew.append hrow2 honly2 hlies2)
           clear hrow2 honly2 hlies2))
      all_goals
        go_wp2_with fail
        go_roundg (gk - 1)
        case measure => omega
        case rel =>
          refine ⟨k + 1, m + 2, A2, c2, by go_num, rfl, by have := HMM.out; omega, by omega, by omega, ?_⟩
          rw [HMORE.out, bcells_append]
          exact HM2.out
    · obtain rfl : k = 32 := by omega
      have hall : K.take 32 = K := List.take_of_length_le (by omega)
      rw [hall] at HM
      have hcv := HM.out.1.text (P := Tryd.prog) Tryd.underlying28 Tryd.underlying5 Tryd.underlying9 (by have := HMM.out; omega)
      go_wp2
      go_ret
      exact ⟨by rw [HK.out]; rfl, (HO1.out.trans HM1.out.2.1).trans HM.out.2.1⟩

theorem or_words (a b : Nat) (hb : b < 4294967296) (ha : a < 4294967296) : bits .or .u64 ((a : Int) * 4294967296) (b : Int) = ((a * 4294967296 + b : Nat) : Int) := by
  have e := u64_or_nat (a * 4294967296) b (by omega) (by omega)
  rw [nat_join 32 (a * 4294967296) b (by omega) (by omega)] at e
  rw [← e]
  simp
def ShortPost (w : World) (l : List UInt8) (e : Ending) (w' : World) : Prop := e = .returned (.int .u64 (shortOf l : Nat)) ∧ Only (fun _ => False) w w'

set_option maxHeartbeats 1000000 in
theorem short (s : ByteArray) (w : World) (hs : s.size ≤ 1073741824) (hT : Tab w) : Calls Tryd.prog 10 #[.string s] w (ShortPost w s.data.toList) := by
  have hok := keyOf_ok s.data.toList
  have C := key s w hs hT
  have hpost : ShortPost w s.data.toList = fun e w' => e = .returned (.int .u64 ((keyOf s.data.toList).a * 4294967296 + (keyOf s.data.toList).b : Nat)) ∧ Only (fun _ => False) w w' := rfl
  rw [hpost]
  unfold KeyPost at C
  obtain ⟨S, hS⟩ : ∃ S, keyOf s.data.toList = S := ⟨_, rfl⟩
  rw [hS] at C hok ⊢
  have ha := hok.a
  have hb := hok.b
  have h1 := or_words S.a S.b hb ha
  have HC := Lib.hid C
  clear C hT hS hpost hok
  go_enter Tryd.func10, Tryd.ntmps10
  go_wp2_with fail
  refine HC.out.mono ?_
  rintro x w1 ⟨rfl, hO1⟩
  have HO1 := Lib.hid hO1
  clear hO1 HC
  go_wp2_with ((with_reducible show wpList _ _ _ (Oper.mk _ (Op.store _ _ _) _ _ _ _ :: _) _ _)
               refine wpList_store_is rfl 35 (.tmp 3) (.tmp 5) rfl w1.heap.size (nums S.list) rfl rfl 35 _ (Is.new w1 35 (List.replicate 8 (.int .u32 0))) (by rw [list8]; exact info35) (by rw [list8]; rfl) (nums_one _) ?_
               intro w5 i5 o5
               have c0 := i5.cell 0 (v := .int .u32 (S.a : Nat)) rfl
               have c1 := i5.cell 1 (v := .int .u32 (S.b : Nat)) rfl
               have HO5 := Lib.hid o5
               clear i5 o5)
  go_ret
  exact ⟨rfl, (HO1.out.alloc _).andThen HO5.out (by intro j hj; right; have := HO1.out.size; omega)⟩
end Go.Proofs.YtohocbfmjcfdgaaDoor
