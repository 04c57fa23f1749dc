/- Layer 4: the program's step by one block. -/
import Derived.Test.YtohocbfmjcfdgaaDoorSched
namespace Go.Proofs.YtohocbfmjcfdgaaDoor
open Go.RowKit

/-- The two tables that the program's text lays. -/
def Tab (w : World) : Prop := 2 ≤ w.heap.size ∧ (∀ i, i < 64 → w.cell? ⟨1, i, none⟩ = some (.int .u32 (consts.getD i 0 : Nat))) ∧ ∀ i, i < 8 → w.cell? ⟨0, i, none⟩ = some (.int .u32 (first.list.getD i 0 : Nat))
theorem Tab.only {S : Nat → Prop} {w w' : World} (h : Tab w) (k : Only S w w') (h0 : ¬ S 0) (h1 : ¬ S 1) : Tab w' := by
  obtain ⟨a, b, c⟩ := h
  exact ⟨Nat.le_trans a k.size, fun i hi => (World.cell?_of_block (k.block 1 (by omega) h1)).trans (b i hi), fun i hi => (World.cell?_of_block (k.block 0 (by omega) h0)).trans (c i hi)⟩
theorem Tab.new {w w' : World} (h : Tab w) (k : Only (fun _ => False) w w') : Tab w' := h.only k id id

def MixPost (w : World) (st : St) (l : List UInt8) (e : Ending) (w' : World) : Prop := e = .returned (.agg (nums (block st l).list).toArray) ∧ Only (fun _ => False) w w'

theorem info35 : (Tryd.prog.info? 35).map (·.size) = some 8 := by kernel_rfl
theorem info45 : (Tryd.prog.info? 45).map (·.size) = some 64 := by kernel_rfl

/-- A whole array laid into a block that is known. -/
theorem wpList_store_is {P : Program} {ops : Array Oper} {rest : List Oper} {o : Oper} {a : Act} {w : World} {Q : Exit → Act → World → Prop} (hgd : o.guard = none) (ty : TypeId) (x y : Operand) (ho : o.op = .store ty x y)
    (g : Nat) (cells : List Value) (hx : a.eval x = .pointer (some ⟨g, 0, none⟩)) (hy : a.eval y = .agg cells.toArray) (t : TypeId) (old : List Value) (hg : Is w g t old)
    (hi : (P.info? ty).map (·.size) = some cells.length) (hold : old.length = cells.length) (h1 : ∀ v ∈ cells, v.oneCell' = true)
    (h : ∀ w', Is w' g t cells → Only (fun j => j = g) w w' → wpList P ops Q rest (a.put o.dst undef) w') : wpList P ops Q (o :: rest) a w :=
  wpList_store_row hgd ty x y ho g cells.toArray hx hy t old.toArray hg (by simpa using hi) (by simpa using hold) (all_oneCell_toArray h1) (h _ (hg.row cells) ((Only.refl (fun j => j = g) w).row (.inl rfl) _))
theorem wpList_load_is {P : Program} {ops : Array Oper} {rest : List Oper} {o : Oper} {a : Act} {w : World} {Q : Exit → Act → World → Prop} (hgd : o.guard = none) (ty : TypeId) (x : Operand) (ho : o.op = .load ty x)
    (g : Nat) (hx : a.eval x = .pointer (some ⟨g, 0, none⟩)) (t : TypeId) (cells : List Value) (hg : Is w g t cells) {n : Nat} {e : TypeId} (hu : P.underlying ty = some (.array n e))
    (hi : (P.info? ty).map (·.size) = some cells.length) (h : wpList P ops Q rest (a.put o.dst (.agg cells.toArray)) w) : wpList P ops Q (o :: rest) a w :=
  wpList_load_row hgd ty x ho g hx t cells.toArray (0, 0) _ hg hu rfl (by simpa using hi) h
theorem nums_one (l : List Nat) : ∀ v ∈ nums l, v.oneCell' = true := by simp [nums, Value.oneCell']
theorem nums_at (l : List Nat) (i : Nat) (h : i < l.length) : (nums l)[i]? = some (.int .u32 (l.getD i 0 : Nat)) := by
  simp [nums, h]


theorem choose_bits (e f g : Nat) (he : e < 4294967296) (hf : f < 4294967296) (hg : g < 4294967296) : bits .xor .u32 (bits .and .u32 (e : Int) (f : Int)) (bits .and .u32 (bits .xor .u32 IntKind.u32.max (e : Int)) (g : Int)) = ((choose e f g : Nat) : Int) := by
  have h1 : bits .xor .u32 IntKind.u32.max (e : Int) = ((4294967295 - e : Nat) : Int) := by
    rw [← not_nat e he]
    exact u32_xor_nat 4294967295 e (by decide) he
  rw [h1, u32_and_nat e f he hf, u32_and_nat _ g (by omega) hg, u32_xor_nat _ _ (and_lt hf) (and_lt hg)]
  rfl
theorem most_bits (a b c : Nat) (ha : a < 4294967296) (hb : b < 4294967296) (hc : c < 4294967296) : bits .xor .u32 (bits .xor .u32 (bits .and .u32 (a : Int) (b : Int)) (bits .and .u32 (a : Int) (c : Int))) (bits .and .u32 (b : Int) (c : Int)) = ((most a b c : Nat) : Int) := by
  rw [u32_and_nat a b ha hb, u32_and_nat a c ha hc, u32_and_nat b c hb hc, u32_xor_nat _ _ (and_lt hb) (and_lt hc), u32_xor_nat _ _ (xor_lt (and_lt hb) (and_lt hc)) (and_lt hc)]
  rfl
theorem new_e (a b c d e f g h k w : Nat) (he : e < 4294967296) (hf : f < 4294967296) (hg : g < 4294967296) :
    ((d : Int) + ((h : Int) + ((turnedBy 6 11 25 e : Nat) : Int) + bits .xor .u32 (bits .and .u32 (e : Int) (f : Int)) (bits .and .u32 (bits .xor .u32 IntKind.u32.max (e : Int)) (g : Int)) + (k : Int) + (w : Int)) % 4294967296) % 4294967296
      = (((round ⟨a, b, c, d, e, f, g, h⟩ k w).e : Nat) : Int) := by
  rw [choose_bits e f g he hf hg, turnedBy1]
  unfold round temp
  simp only
  omega
theorem new_a (a b c d e f g h k w : Nat) (ha : a < 4294967296) (hb : b < 4294967296) (hc : c < 4294967296) (he : e < 4294967296) (hf : f < 4294967296) (hg : g < 4294967296) :
    (((h : Int) + ((turnedBy 6 11 25 e : Nat) : Int) + bits .xor .u32 (bits .and .u32 (e : Int) (f : Int)) (bits .and .u32 (bits .xor .u32 IntKind.u32.max (e : Int)) (g : Int)) + (k : Int) + (w : Int)) % 4294967296
      + (((turnedBy 2 13 22 a : Nat) : Int) + bits .xor .u32 (bits .xor .u32 (bits .and .u32 (a : Int) (b : Int)) (bits .and .u32 (a : Int) (c : Int))) (bits .and .u32 (b : Int) (c : Int))) % 4294967296) % 4294967296
      = (((round ⟨a, b, c, d, e, f, g, h⟩ k w).a : Nat) : Int) := by
  rw [choose_bits e f g he hf hg, most_bits a b c ha hb hc, turnedBy1, turnedBy0]
  unfold round temp temp2
  simp only
  omega
/-- The first k of eight sums. -/
def half (s t : St) (k : Nat) : List Nat := (s.plus t).list.take k ++ s.list.drop k

set_option maxHeartbeats 4000000 in
set_option maxRecDepth 100000 in
theorem mix (st : St) (s : ByteArray) (w : World) (hok : st.Ok) (hs : s.size = 64) (hT : Tab w) : Calls Tryd.prog 18 #[.agg (nums st.list).toArray, .string s] w (MixPost w st s.data.toList) := by
  have HT := Lib.hid hT
  clear hT
  obtain ⟨ws, hws⟩ : ∃ ws, wds s.data.toList 64 = ws := ⟨_, rfl⟩
  have hwl : ws.length = 64 := by rw [← hws]; exact wds_length _ _
  have hwt : ∀ i, ws.getD i 0 < 4294967296 := by rw [← hws]; exact wds_at_lt _ _
  have hpost : MixPost w st s.data.toList = fun e w' => e = .returned (.agg (nums (st.plus (rounds ws st 64)).list).toArray) ∧ Only (fun _ => False) w w' := by rw [← hws]; rfl
  rw [hpost]
  have C := schedule s
  rw [hws] at C
  have HC := Lib.hid C
  clear hpost C hws
  show Calls Tryd.prog 18 #[.agg #[.int .u32 (st.a : Nat), .int .u32 (st.b : Nat), .int .u32 (st.c : Nat), .int .u32 (st.d : Nat), .int .u32 (st.e : Nat), .int .u32 (st.f : Nat), .int .u32 (st.g : Nat), .int .u32 (st.h : Nat)], .string s] w _
  have hsg : IntKind.u32.signed = false := rfl
  go_enter Tryd.func18, Tryd.ntmps18
  go_wp2_with fail
  refine (HC.out _ hs).mono ?_
  rintro x w1 ⟨rfl, hO1⟩
  have b0 : Is w1 w.heap.size 35 (nums st.list) := ((Is.new w 35 (nums st.list)).alloc _).only hO1 id
  have b1 : Is w1 (w.heap.size + 1) 35 (List.replicate 8 (.int .u32 0)) := (Is.new2 w _ 35 _).only hO1 id
  have o1 : Only (fun _ => False) w w1 := (((Only.refl _ w).alloc _).alloc _).trans hO1
  have HB0 := Lib.hid b0
  have HB1 := Lib.hid b1
  have HO1 := Lib.hid o1
  clear b0 b1 o1 hO1
  go_wp2_with (first
    | ((with_reducible show wpList _ _ _ (Oper.mk _ (Op.store _ _ _) _ _ _ _ :: _) _ _)
       refine wpList_store_is rfl 45 (.tmp 5) (.tmp 20) rfl w1.heap.size (nums ws) rfl rfl 45 _ (Is.new w1 45 (List.replicate 64 (.int .u32 0))) (by rw [nums_length, hwl]; exact info45) (by rw [nums_length, hwl]; rfl) (nums_one _) ?_
       intro w2 i2 o2))
  have lt0 := HB0.out.lt
  have lt1 := HB1.out.lt
  have b0 : Is w2 w.heap.size 35 (nums st.list) := (HB0.out.alloc _).only o2 (by omega)
  have b1 : Is w2 (w.heap.size + 1) 35 (List.replicate 8 (.int .u32 0)) := (HB1.out.alloc _).only o2 (by omega)
  have hO2 : Only (fun _ => False) w w2 := (HO1.out.alloc _).andThen o2 (by intro j hj; right; omega)
  have hT2 := HT.out.new hO2
  obtain ⟨g2, hg2⟩ : ∃ g2, w1.heap.size = g2 := ⟨_, rfl⟩
  rw [hg2] at i2 o2 lt0 lt1 ⊢
  clear o2 HO1 HB0 HB1 HC hg2 hs
  have c0 := b0.cell 0 rfl
  have c1 := b0.cell 1 rfl
  have c2 := b0.cell 2 rfl
  have c3 := b0.cell 3 rfl
  have c4 := b0.cell 4 rfl
  have c5 := b0.cell 5 rfl
  have c6 := b0.cell 6 rfl
  have c7 := b0.cell 7 rfl
  have HB0 := Lib.hid b0
  have HB1 := Lib.hid b1
  have HO2 := Lib.hid hO2
  have HT2 := Lib.hid hT2
  have HI2 := Lib.hid i2
  clear b0 b1 hO2 i2 hT2 HT
  go_quiet (fail)
  go_wp2_with fail
  go_loopg [6, 7, 8, 9, 10, 11, 12, 13, 37] 64 (fun gk va vb vc vd ve vf vg vh i wx => ∃ k n : Nat, i = .int .i64 k ∧ k + gk ≤ 64 ∧ 64 ≤ k + gk ∧ va = .int .u32 ((rounds ws st k).a : Nat) ∧ vb = .int .u32 ((rounds ws st k).b : Nat) ∧ vc = .int .u32 ((rounds ws st k).c : Nat) ∧ vd = .int .u32 ((rounds ws st k).d : Nat)
    ∧ ve = .int .u32 ((rounds ws st k).e : Nat) ∧ vf = .int .u32 ((rounds ws st k).f : Nat) ∧ vg = .int .u32 ((rounds ws st k).g : Nat) ∧ vh = .int .u32 ((rounds ws st k).h : Nat) ∧ wx = w2.drewN n)
  case atStart => exact ⟨0, nq, rfl, by omega, by omega, rfl, rfl, rfl, rfl, rfl, rfl, rfl, rfl, rfl⟩
  case round =>
    obtain ⟨k, n, rfl, hk, hk2, rfl, rfl, rfl, rfl, rfl, rfl, rfl, rfl, hw⟩ := hrel
    have d1 : wr.cell? ⟨g2, k, none⟩ = w2.cell? ⟨g2, k, none⟩ := by rw [hw]; rfl
    have d2 : wr.cell? ⟨1, k, none⟩ = w2.cell? ⟨1, k, none⟩ := by rw [hw]; rfl
    have HW := Lib.hid hw
    clear hw c0 c1 c2 c3 c4 c5 c6 c7
    have hok2 := rounds_ok ws hok k
    have hnx : rounds ws st (k + 1) = round (rounds ws st k) (consts.getD k 0) (ws.getD k 0) := rfl
    by_cases hlt : k < 64
    · rw [HI2.out.cell k (nums_at ws k (by omega))] at d1
      rw [HT2.out.2.1 k hlt] at d2
      obtain ⟨kk, hkk⟩ : ∃ x, consts.getD k 0 = x := ⟨_, rfl⟩
      obtain ⟨ww, hww⟩ : ∃ x, ws.getD k 0 = x := ⟨_, rfl⟩
      rw [hkk] at d2 hnx
      rw [hww] at d1 hnx
      obtain ⟨S, hS⟩ : ∃ S, rounds ws st k = S := ⟨_, rfl⟩
      rw [hS] at hok2 hnx ⊢
      obtain ⟨a, b, c, d, e, f, g, h⟩ := S
      obtain ⟨ha, hb, hc, hd, he, hf, hg, hh⟩ := hok2
      simp only at ha hb hc hd he hf hg hh ⊢
      have HNX := Lib.hid hnx
      clear hnx hS hkk hww
      go_wp2_with fail
      go_quiet (first | (go_at_call 24; exact turnedq _ _ _ _ _ _ (by assumption) (by decide) (by decide) (by decide)))
      go_wp2_with fail
      refine (turneds _ _ _ _ _ (by assumption) (by decide) (by decide) (by decide)).mono ?_
      rintro x w' ⟨rfl, rfl⟩
      go_wp2_with fail
      go_roundg (gk - 1)
      case measure => omega
      case rel =>
        exact ⟨k + 1, n + nq, by go_num, by omega, by omega, by rw [HNX.out, ← new_a a b c d e f g h kk ww ha hb hc he hf hg], by rw [HNX.out]; rfl, by rw [HNX.out]; rfl, by rw [HNX.out]; rfl, by rw [HNX.out, ← new_e a b c d e f g h kk ww he hf hg],
          by rw [HNX.out]; rfl, by rw [HNX.out]; rfl, by rw [HNX.out]; rfl, by rw [HW.out, World.drewN_drewN]⟩
    · obtain rfl : k = 64 := by omega
      clear d1 d2 hnx hok2 hlt hk hk2
      obtain ⟨R, hR⟩ : ∃ R, rounds ws st 64 = R := ⟨_, rfl⟩
      rw [hR]
      have HR := Lib.hid hR
      clear hR
      have b0 : Is wr w.heap.size 35 (nums (half st R 0)) := by rw [HW.out]; exact HB0.out.drewN n
      have b1 : Is wr (w.heap.size + 1) 35 (List.replicate 8 (.int .u32 0)) := by rw [HW.out]; exact HB1.out.drewN n
      have b2 : Only (fun _ => False) w wr := by rw [HW.out]; exact HO2.out.drewN n
      have HI := Lib.hid (And.intro b0 (And.intro b1 b2))
      clear b0 b1 b2 HW HB0 HB1 HO2 HT2 HI2 hwl hwt lt0 lt1
      go_wp2_with fail
      go_loopg [97] 8 (fun gk i wx => ∃ k : Nat, i = .int .i64 k ∧ k + gk ≤ 8 ∧ 8 ≤ k + gk ∧ Is wx w.heap.size 35 (nums (half st R k)) ∧ Is wx (w.heap.size + 1) 35 (List.replicate 8 (.int .u32 0)) ∧ Only (fun _ => False) w wx)
      case atStart => exact ⟨0, rfl, by omega, by omega, HI.out⟩
      case round =>
        obtain ⟨k, rfl, hk, hk2, hI⟩ := hrel
        clear HI
        by_cases hlt : k < 8
        · obtain rfl | rfl | rfl | rfl | rfl | rfl | rfl | rfl : k = 0 ∨ k = 1 ∨ k = 2 ∨ k = 3 ∨ k = 4 ∨ k = 5 ∨ k = 6 ∨ k = 7 := by omega
          · have c1 := hI.1.cell 0 (v := .int .u32 (st.a : Nat)) rfl
            have c2 := hI.1.frozen 0
            have c3 : ∀ W : World, (Instr.index 35 (.agg #[.int .u32 (R.a : Nat), .int .u32 (R.b : Nat), .int .u32 (R.c : Nat), .int .u32 (R.d : Nat), .int .u32 (R.e : Nat), .int .u32 (R.f : Nat), .int .u32 (R.g : Nat), .int .u32 (R.h : Nat)]) (.int .i64 0)).run Tryd.prog W = .ok (.int .u32 (R.a : Nat)) W := fun _ => by kernel_rfl
            have HI := Lib.hid hI
            clear hI
            go_wp2_with fail
            go_roundg (gk - 1)
            case measure => omega
            case rel =>
              refine ⟨0 + 1, by go_num, by omega, by omega, ?_, HI.out.2.1.far (p := ⟨w.heap.size, 0, none⟩) (by simp) _, HI.out.2.2.set (p := ⟨w.heap.size, 0, none⟩) (.inr (Nat.le_refl _)) _⟩
              have e1 : ((st.a : Int) + (R.a : Int)) % 4294967296 = (((st.plus R).a : Nat) : Int) := by simp [St.plus]
              rw [e1]
              exact HI.out.1.set 0 _
          · have c1 := hI.1.cell 1 (v := .int .u32 (st.b : Nat)) rfl
            have c2 := hI.1.frozen 1
            have c3 : ∀ W : World, (Instr.index 35 (.agg #[.int .u32 (R.a : Nat), .int .u32 (R.b : Nat), .int .u32 (R.c : Nat), .int .u32 (R.d : Nat), .int .u32 (R.e : Nat), .int .u32 (R.f : Nat), .int .u32 (R.g : Nat), .int .u32 (R.h : Nat)]) (.int .i64 1)).run Tryd.prog W = .ok (.int .u32 (R.b : Nat)) W := fun _ => by kernel_rfl
            have HI := Lib.hid hI
            clear hI
            go_wp2_with fail
            go_roundg (gk - 1)
            case measure => omega
            case rel =>
              refine ⟨1 + 1, by go_num, by omega, by omega, ?_, HI.out.2.1.far (p := ⟨w.heap.size, 1, none⟩) (by simp) _, HI.out.2.2.set (p := ⟨w.heap.size, 1, none⟩) (.inr (Nat.le_refl _)) _⟩
              have e1 : ((st.b : Int) + (R.b : Int)) % 4294967296 = (((st.plus R).b : Nat) : Int) := by simp [St.plus]
              rw [e1]
              exact HI.out.1.set 1 _
          · have c1 := hI.1.cell 2 (v := .int .u32 (st.c : Nat)) rfl
            have c2 := hI.1.frozen 2
            have c3 : ∀ W : World, (Instr.index 35 (.agg #[.int .u32 (R.a : Nat), .int .u32 (R.b : Nat), .int .u32 (R.c : Nat), .int .u32 (R.d : Nat), .int .u32 (R.e : Nat), .int .u32 (R.f : Nat), .int .u32 (R.g : Nat), .int .u32 (R.h : Nat)]) (.int .i64 2)).run Tryd.prog W = .ok (.int .u32 (R.c : Nat)) W := fun _ => by kernel_rfl
            have HI := Lib.hid hI
            clear hI
            go_wp2_with fail
            go_roundg (gk - 1)
            case measure => omega
            case rel =>
              refine ⟨2 + 1, by go_num, by omega, by omega, ?_, HI.out.2.1.far (p := ⟨w.heap.size, 2, none⟩) (by simp) _, HI.out.2.2.set (p := ⟨w.heap.size, 2, none⟩) (.inr (Nat.le_refl _)) _⟩
              have e1 : ((st.c : Int) + (R.c : Int)) % 4294967296 = (((st.plus R).c : Nat) : Int) := by simp [St.plus]
              rw [e1]
              exact HI.out.1.set 2 _
          · have c1 := hI.1.cell 3 (v := .int .u32 (st.d : Nat)) rfl
            have c2 := hI.1.frozen 3
            have c3 : ∀ W : World, (Instr.index 35 (.agg #[.int .u32 (R.a : Nat), .int .u32 (R.b : Nat), .int .u32 (R.c : Nat), .int .u32 (R.d : Nat), .int .u32 (R.e : Nat), .int .u32 (R.f : Nat), .int .u32 (R.g : Nat), .int .u32 (R.h : Nat)]) (.int .i64 3)).run Tryd.prog W = .ok (.int .u32 (R.d : Nat)) W := fun _ => by kernel_rfl
            have HI := Lib.hid hI
            clear hI
            go_wp2_with fail
            go_roundg (gk - 1)
            case measure => omega
            case rel =>
              refine ⟨3 + 1, by go_num, by omega, by omega, ?_, HI.out.2.1.far (p := ⟨w.heap.size, 3, none⟩) (by simp) _, HI.out.2.2.set (p := ⟨w.heap.size, 3, none⟩) (.inr (Nat.le_refl _)) _⟩
              have e1 : ((st.d : Int) + (R.d : Int)) % 4294967296 = (((st.plus R).d : Nat) : Int) := by simp [St.plus]
              rw [e1]
              exact HI.out.1.set 3 _
          · have c1 := hI.1.cell 4 (v := .int .u32 (st.e : Nat)) rfl
            have c2 := hI.1.frozen 4
            have c3 : ∀ W : World, (Instr.index 35 (.agg #[.int .u32 (R.a : Nat), .int .u32 (R.b : Nat), .int .u32 (R.c : Nat), .int .u32 (R.d : Nat), .int .u32 (R.e : Nat), .int .u32 (R.f : Nat), .int .u32 (R.g : Nat), .int .u32 (R.h : Nat)]) (.int .i64 4)).run Tryd.prog W = .ok (.int .u32 (R.e : Nat)) W := fun _ => by kernel_rfl
            have HI := Lib.hid hI
            clear hI
            go_wp2_with fail
            go_roundg (gk - 1)
            case measure => omega
            case rel =>
              refine ⟨4 + 1, by go_num, by omega, by omega, ?_, HI.out.2.1.far (p := ⟨w.heap.size, 4, none⟩) (by simp) _, HI.out.2.2.set (p := ⟨w.heap.size, 4, none⟩) (.inr (Nat.le_refl _)) _⟩
              have e1 : ((st.e : Int) + (R.e : Int)) % 4294967296 = (((st.plus R).e : Nat) : Int) := by simp [St.plus]
              rw [e1]
              exact HI.out.1.set 4 _
          · have c1 := hI.1.cell 5 (v := .int .u32 (st.f : Nat)) rfl
            have c2 := hI.1.frozen 5
            have c3 : ∀ W : World, (Instr.index 35 (.agg #[.int .u32 (R.a : Nat), .int .u32 (R.b : Nat), .int .u32 (R.c : Nat), .int .u32 (R.d : Nat), .int .u32 (R.e : Nat), .int .u32 (R.f : Nat), .int .u32 (R.g : Nat), .int .u32 (R.h : Nat)]) (.int .i64 5)).run Tryd.prog W = .ok (.int .u32 (R.f : Nat)) W := fun _ => by kernel_rfl
            have HI := Lib.hid hI
            clear hI
            go_wp2_with fail
            go_roundg (gk - 1)
            case measure => omega
            case rel =>
              refine ⟨5 + 1, by go_num, by omega, by omega, ?_, HI.out.2.1.far (p := ⟨w.heap.size, 5, none⟩) (by simp) _, HI.out.2.2.set (p := ⟨w.heap.size, 5, none⟩) (.inr (Nat.le_refl _)) _⟩
              have e1 : ((st.f : Int) + (R.f : Int)) % 4294967296 = (((st.plus R).f : Nat) : Int) := by simp [St.plus]
              rw [e1]
              exact HI.out.1.set 5 _
          · have c1 := hI.1.cell 6 (v := .int .u32 (st.g : Nat)) rfl
            have c2 := hI.1.frozen 6
            have c3 : ∀ W : World, (Instr.index 35 (.agg #[.int .u32 (R.a : Nat), .int .u32 (R.b : Nat), .int .u32 (R.c : Nat), .int .u32 (R.d : Nat), .int .u32 (R.e : Nat), .int .u32 (R.f : Nat), .int .u32 (R.g : Nat), .int .u32 (R.h : Nat)]) (.int .i64 6)).run Tryd.prog W = .ok (.int .u32 (R.g : Nat)) W := fun _ => by kernel_rfl
            have HI := Lib.hid hI
            clear hI
            go_wp2_with fail
            go_roundg (gk - 1)
            case measure => omega
            case rel =>
              refine ⟨6 + 1, by go_num, by omega, by omega, ?_, HI.out.2.1.far (p := ⟨w.heap.size, 6, none⟩) (by simp) _, HI.out.2.2.set (p := ⟨w.heap.size, 6, none⟩) (.inr (Nat.le_refl _)) _⟩
              have e1 : ((st.g : Int) + (R.g : Int)) % 4294967296 = (((st.plus R).g : Nat) : Int) := by simp [St.plus]
              rw [e1]
              exact HI.out.1.set 6 _
          · have c1 := hI.1.cell 7 (v := .int .u32 (st.h : Nat)) rfl
            have c2 := hI.1.frozen 7
            have c3 : ∀ W : World, (Instr.index 35 (.agg #[.int .u32 (R.a : Nat), .int .u32 (R.b : Nat), .int .u32 (R.c : Nat), .int .u32 (R.d : Nat), .int .u32 (R.e : Nat), .int .u32 (R.f : Nat), .int .u32 (R.g : Nat), .int .u32 (R.h : Nat)]) (.int .i64 7)).run Tryd.prog W = .ok (.int .u32 (R.h : Nat)) W := fun _ => by kernel_rfl
            have HI := Lib.hid hI
            clear hI
            go_wp2_with fail
            go_roundg (gk - 1)
            case measure => omega
            case rel =>
              refine ⟨7 + 1, by go_num, by omega, by omega, ?_, HI.out.2.1.far (p := ⟨w.heap.size, 7, none⟩) (by simp) _, HI.out.2.2.set (p := ⟨w.heap.size, 7, none⟩) (.inr (Nat.le_refl _)) _⟩
              have e1 : ((st.h : Int) + (R.h : Int)) % 4294967296 = (((st.plus R).h : Nat) : Int) := by simp [St.plus]
              rw [e1]
              exact HI.out.1.set 7 _
        · obtain rfl : k = 8 := by omega
          obtain ⟨b0, b1, b2⟩ := hI
          have HB0 := Lib.hid b0
          have HB1 := Lib.hid b1
          have HB2 := Lib.hid b2
          clear b0 b1 b2
          go_wp2_with (first
            | ((with_reducible show wpList _ _ _ (Oper.mk _ (Op.load _ _) _ _ _ _ :: _) _ _)
               refine wpList_load_is rfl 35 (.tmp 2) rfl w.heap.size rfl 35 _ HB0.out Tryd.underlying35 info35 ?_)
            | ((with_reducible show wpList _ _ _ (Oper.mk _ (Op.store _ _ _) _ _ _ _ :: _) _ _)
               refine wpList_store_is rfl 35 (.tmp 4) (.tmp 108) rfl (w.heap.size + 1) _ rfl rfl 35 _ HB1.out info35 rfl (nums_one _) ?_
               intro w5 i5 o5))
          refine bodyPost_ret (results_cell_row rfl _ _ (w.heap.size + 1) 35 _ (0, 0) _ rfl i5 Tryd.underlying35 rfl info35) rfl ?_
          exact ⟨by rw [HR.out]; rfl, HB2.out.andThen o5 (by intro j hj; right; omega)⟩
end Go.Proofs.YtohocbfmjcfdgaaDoor
