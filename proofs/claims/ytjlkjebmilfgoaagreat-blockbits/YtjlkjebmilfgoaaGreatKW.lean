/- Layers 1, 2 and 11, the program: a writer with a footprint; the bytes of a number; a block of kind 0. -/
import Derived.Test.YtjlkjebmilfgoaaGreatBW2
import Derived.Test.YtjlkjebmilfgoaaGreatM6
import Derived.Laws.MakeOwn
import Derived.Laws.OwnMore
/- A writer by its bits, and where it may lie; a number put, bytes written, a symbol written by a table. -/
namespace Go.Proofs.YtjlkjebmilfgoaaGreat
open Go.RowKit

/-- A writer that holds the bits bl; it, and its bytes, lie in F. -/
def Wf (w : World) (b : Nat) (F : Nat → Prop) (bl : List UInt8) : Prop := ∃ A n c l, Wrt w b A n c bl.length l ∧ le l = le2 bl ∧ F b ∧ ∀ j, Lies A j → F j
section
variable {w w0 w1 w' : World} {b : Nat} {F G S : Nat → Prop} {bl bl' : List UInt8}
theorem Wf.mono (h : Wf w b F bl) (hF : ∀ j, F j → G j) : Wf w b G bl := by
  obtain ⟨A, n, c, l, hw, he, hb, hA⟩ := h
  exact ⟨A, n, c, l, hw, he, hF b hb, fun j hj => hF j (hA j hj)⟩
theorem Wf.tight (h : Wf w b F bl) : Wf w b (fun j => F j ∧ j < w.heap.size) bl := by
  obtain ⟨A, n, c, l, hw, he, hb, hA⟩ := h
  exact ⟨A, n, c, l, hw, he, ⟨hb, hw.wr.1.lt⟩, fun j hj => ⟨hA j hj, hw.wr.2.lt j hj⟩⟩
theorem Wf.far (h : Wf w b F bl) (k : Only S w w') (hS : ∀ j, F j → ¬ S j) : Wf w' b F bl := by
  obtain ⟨A, n, c, l, hw, he, hb, hA⟩ := h
  exact ⟨A, n, c, l, ⟨⟨hw.wr.1.only k (hS b hb), hw.wr.2.only k fun j hj => hS j (hA j hj)⟩, hw.len, hw.lt⟩, he, hb, hA⟩
theorem Wf.new (h : Wf w b F bl) (k : Only (fun _ => False) w w') : Wf w' b F bl := h.far k fun _ _ f => f
/-- What calls leave that have written to a writer since w0. -/
structure WfP (w0 : World) (b : Nat) (F : Nat → Prop) (bl : List UInt8) (w : World) : Prop where
  wf : Wf w b (fun j => F j ∨ w0.heap.size ≤ j) bl
  only : Only F w0 w
theorem WfP.start (h : Wf w b F bl) : WfP w b F bl w := ⟨h.mono fun _ h => .inl h, Only.refl _ w⟩
theorem WfP.step (h : WfP w0 b F bl w) (k : WfP w b (fun j => F j ∨ w0.heap.size ≤ j) bl' w') : WfP w0 b F bl' w' := by
  have hs := h.only.size
  exact ⟨k.wf.mono fun j hj => hj.elim id fun h2 => .inr (by omega), h.only.andThen k.only fun j hj => hj⟩
theorem WfP.new (h : WfP w0 b F bl w) (k : Only (fun _ => False) w w') : WfP w0 b F bl w' := ⟨h.wf.new k, h.only.trans (k.mono fun _ f => f.elim)⟩
theorem WfP.mono (h : WfP w0 b F bl w) (hF : ∀ j, F j → G j) : WfP w0 b G bl w := ⟨h.wf.mono fun j hj => hj.imp (hF j) id, h.only.mono hF⟩
theorem WfP.late (k : Only (fun _ => False) w0 w) (h : WfP w b F bl w') : WfP w0 b F bl w' := by
  have hs := k.size
  exact ⟨h.wf.mono fun j hj => hj.imp id fun h2 => by omega, (k.mono fun _ f => f.elim).trans h.only⟩
theorem Wf.row {A A' : Option Addr} {n' c' : Nat} {l' : List UInt8} (hA : ∀ j, Lies A j → F j) (hb : F b) (hw : Wrt w' b A' n' c' bl'.length l') (he : le l' = le2 bl') (ho : Only (fun j => j = b ∨ Lies A j) w w') (ha : A' = A ∨ ∃ g, A' = some ⟨g, 0, none⟩ ∧ w.heap.size ≤ g) : WfP w b F bl' w' := by
  refine ⟨⟨A', n', c', l', hw, he, .inl hb, fun j hj => ?_⟩, ho.mono fun j hj => hj.elim (fun e => e ▸ hb) (hA j)⟩
  rcases ha with e | ⟨g, e, hg⟩
  · exact .inl (hA j (e ▸ hj))
  · obtain ⟨ad, e1, rfl⟩ := hj
    rw [e] at e1
    obtain rfl := Option.some.inj e1
    exact .inr hg
end

theorem newWf (w : World) : Calls Tryz.prog 6 #[] w fun e w' => e = .returned (.pointer (some ⟨w.heap.size, 0, none⟩)) ∧ Wf w' w.heap.size (fun j => j = w.heap.size) [] ∧ Only (fun _ => False) w w' := by
  refine (newWriter w).mono ?_
  rintro e w' ⟨rfl, rfl⟩
  exact ⟨rfl, ⟨none, 0, 0, [], ⟨⟨Is.new w 51 _, BRow.nil 5 _⟩, rfl, by decide⟩, rfl, rfl, by rintro j ⟨ad, e, _⟩; cases e⟩, (Only.refl _ w).alloc _⟩

def PutW (w : World) (b : Nat) (F : Nat → Prop) (bl : List UInt8) (e : Ending) (w' : World) : Prop := e = .returned (.tuple #[]) ∧ WfP w b F bl w'
theorem wput (b v m : Nat) (F : Nat → Prop) (bl : List UInt8) (w : World) (h : Wf w b F bl) (hbl : bl.length ≤ 1073741824) (hv : v < 4294967296) (hm : m ≤ 32) :
    Calls Tryz.prog 7 #[.pointer (some ⟨b, 0, none⟩), .int .u32 v, .int .i64 m] w (PutW w b F (bl ++ nb v m)) := by
  obtain ⟨A, n, c, l, hw, he, hb, hA⟩ := h
  have hcl : clamp (m : Int) = m := by unfold clamp; omega
  have HP := put b A n c bl.length v m l w hw hbl hv
  rw [hcl] at HP
  refine HP.mono ?_
  rintro e w' ⟨rfl, A', n', c', l', hw2, hn2, he2, ho2, ha2⟩
  have hlen : (bl ++ nb v m).length = bl.length + m := by rw [List.length_append, nb_length]
  refine ⟨rfl, Wf.row (l' := l') hA hb (n' := n') (c' := c') (A' := A') ⟨by rw [hlen]; exact hw2, by rw [hlen]; exact hn2, ?_⟩ ?_ ho2 ha2⟩
  · rw [hlen, he2]
    exact put_lt _ _ _ _ hw.lt (Nat.mod_lt _ (Nat.pow_pos (by decide)))
  · rw [he2, le2_append, le2_nb, he, Nat.mul_comm]
theorem wlen (b : Nat) (F : Nat → Prop) (bl : List UInt8) (w : World) (h : Wf w b F bl) :
    Calls Tryz.prog 16 #[.pointer (some ⟨b, 0, none⟩)] w fun e w' => e = .returned (.int .i64 bl.length) ∧ w = w' := by
  obtain ⟨A, n, c, l, hw, he, hb, hA⟩ := h
  exact wrLen b A n c bl.length l w hw.wr
/-- What Text answers. -/
def TextIs (bl : List UInt8) (t : ByteArray) : Prop := t.size = (bl.length + 7) / 8 ∧ le t.data.toList = le2 bl
theorem wtext (b : Nat) (F : Nat → Prop) (bl : List UInt8) (w : World) (h : Wf w b F bl) :
    Calls Tryz.prog 9 #[.pointer (some ⟨b, 0, none⟩)] w fun e w' => (∃ t, e = .returned (.string t) ∧ TextIs bl t) ∧ w = w' := by
  obtain ⟨A, n, c, l, hw, he, hb, hA⟩ := h
  refine (text b A n c bl.length l w hw.wr).mono ?_
  rintro e w' ⟨rfl, rfl⟩
  exact ⟨⟨_, rfl, by show l.toArray.size = _; rw [List.size_toArray, hw.wr.2.len]; exact hw.len, he⟩, rfl⟩

/-- Bits up to the end of a byte. -/
def alignB (bl : List UInt8) : List UInt8 := bl ++ List.replicate ((bl.length + 7) / 8 * 8 - bl.length) 0
theorem alignB_length (bl : List UInt8) : (alignB bl).length = (bl.length + 7) / 8 * 8 := by
  unfold alignB
  rw [List.length_append, List.length_replicate]
  omega
theorem le2_alignB (bl : List UInt8) : le2 (alignB bl) = le2 bl := by
  unfold alignB
  rw [le2_append, le2_zeros, Nat.mul_zero, Nat.add_zero]
theorem wwrite (b : Nat) (F : Nat → Prop) (bl : List UInt8) (s : ByteArray) (w : World) (h : Wf w b F bl) (hbl : bl.length ≤ 1000000000) (hs : s.size ≤ 1000000) :
    Calls Tryz.prog 22 #[.pointer (some ⟨b, 0, none⟩), .string s] w (PutW w b F (alignB bl ++ bitsOf s.data.toList)) := by
  obtain ⟨A, n, c, l, hw, he, hb, hA⟩ := h
  have hn := hw.len
  refine (wrWrite b A n c bl.length l s w hw.wr (by omega)).mono ?_
  rintro e w' ⟨rfl, A', c', hw2, ho2, ha2⟩
  have hsz : s.data.toList.length = s.size := by simp
  have hll : l.length = n := hw.wr.2.len
  have hlen : (alignB bl ++ bitsOf s.data.toList).length = 8 * (n + s.data.toList.length) := by rw [List.length_append, alignB_length, bitsOf_length]; omega
  refine ⟨rfl, Wf.row (l' := l ++ s.data.toList) hA hb (n' := n + s.data.toList.length) (c' := c') (A' := A') ⟨by rw [hlen]; exact hw2, by rw [hlen]; omega, ?_⟩ ?_ ho2 ha2⟩
  · rw [hlen]
    have := le_lt (l ++ s.data.toList)
    rw [pow256, List.length_append, hll] at this
    exact this
  · rw [le2_append, le_append, le2_alignB, le2_bitsOf, he, alignB_length, hll, hn, pow256, Nat.mul_comm 8]

/-- Block T is a table of the code that l makes, whole; all that it leads to lies from lo up to T. -/
def Tab2 (w : World) (lo T : Nat) (l : List Nat) : Prop := ∃ (A1 A2 A3 A4 : Option Addr) (c1 c2 c3 c4 : Nat),
  Is w T 121 [.slice A1 l.length c1, .slice A2 l.length c2, .slice A3 (st l 16) c3, .slice A4 (lg l) c4] ∧
  See w T A1 (ints l) ∧ See w T A2 (hints (tds l)) ∧ (∀ j, Lies A1 j → lo ≤ j) ∧ (∀ j, Lies A2 j → lo ≤ j) ∧ lo ≤ T
section
variable {w w' : World} {lo l2 T : Nat} {l : List Nat} {X : Nat → Prop}
theorem Tab2.keep (h : Tab2 w lo T l) (k : Only X w w') (hd : ∀ j, lo ≤ j → j ≤ T → ¬ X j) : Tab2 w' lo T l := by
  obtain ⟨A1, A2, A3, A4, c1, c2, c3, c4, h0, h3, h4, l3, l4, hT⟩ := h
  exact ⟨A1, A2, A3, A4, c1, c2, c3, c4, h0.only k (hd T hT (Nat.le_refl _)), h3.apart l3 k (fun j a b => hd j a (Nat.le_of_lt b)), h4.apart l4 k (fun j a b => hd j a (Nat.le_of_lt b)), l3, l4, hT⟩
theorem Tab2.new (h : Tab2 w lo T l) (k : Only (fun _ => False) w w') : Tab2 w' lo T l := h.keep k fun _ _ _ f => f
theorem Tab2.lt (h : Tab2 w lo T l) : T < w.heap.size := by
  obtain ⟨A1, A2, A3, A4, c1, c2, c3, c4, h0, _⟩ := h
  exact h0.lt
theorem Tab2.lo_le (h : Tab2 w lo T l) : lo ≤ T := by
  obtain ⟨A1, A2, A3, A4, c1, c2, c3, c4, _, _, _, _, _, h0⟩ := h
  exact h0
theorem Tab2.less (h : Tab2 w lo T l) (hl : l2 ≤ lo) : Tab2 w l2 T l := by
  obtain ⟨A1, A2, A3, A4, c1, c2, c3, c4, h0, h3, h4, l3, l4, hT⟩ := h
  exact ⟨A1, A2, A3, A4, c1, c2, c3, c4, h0, h3, h4, fun j hj => Nat.le_trans hl (l3 j hj), fun j hj => Nat.le_trans hl (l4 j hj), Nat.le_trans hl hT⟩
end
theorem tbits (T s lo : Nat) (l : List Nat) (w : World) (h : Tab2 w lo T l) (hs : s < l.length) : Calls Tryz.prog 72 #[.pointer (some ⟨T, 0, none⟩), .int .i64 s] w fun e w' => e = .returned (.int .i64 (ln l s : Nat)) ∧ w = w' := by
  obtain ⟨A1, A2, A3, A4, c1, c2, c3, c4, h0, h1, h2, l3, l4, hT⟩ := h
  have t0 := h0.cell 0 rfl
  obtain ⟨b, off, rfl, _, q⟩ := h1 s _ (ints_at l s hs)
  obtain ⟨x, hx⟩ : ∃ x, ln l s = x := ⟨_, rfl⟩
  obtain ⟨n, hn⟩ : ∃ n, l.length = n := ⟨_, rfl⟩
  rw [hx] at q ⊢
  rw [hn] at hs t0
  clear h0 h1 h2 l3 l4 hx hn
  go_enter Tryz.func72, Tryz.ntmps72
  go_wp2
  go_ret
  exact ⟨rfl, rfl⟩

theorem le2_inj : ∀ a b : List UInt8, Bits a → Bits b → a.length = b.length → le2 a = le2 b → a = b
  | [], [], _, _, _, _ => rfl
  | [], _ :: _, _, _, h, _ => by simp at h
  | _ :: _, [], _, _, h, _ => by simp at h
  | x :: a, y :: b, ha, hb, hl, h => by
    have h1 := ha x List.mem_cons_self
    have h2 := hb y List.mem_cons_self
    simp only [le2] at h
    have e : x = y := by
      apply UInt8.toNat_inj.1
      omega
    subst e
    rw [le2_inj a b (fun z hz => ha z (List.mem_cons_of_mem _ hz)) (fun z hz => hb z (List.mem_cons_of_mem _ hz)) (by simpa using hl) (by omega)]
theorem nb_rv (n x : Nat) : nb (rv n x) n = hb n x :=
  le2_inj _ _ (nb_bits _ _) (hb_bits _ _) (by rw [nb_length, hb_length]) (by rw [le2_nb, le2_hb, Nat.mod_eq_of_lt (rv_lt n x)])

/-- A symbol's code. -/
def code (l : List Nat) (s : Nat) : List UInt8 := hb (ln l s) (cd l s)
theorem code_length (l : List Nat) (s : Nat) : (code l s).length = ln l s := hb_length _ _
def WroteP (w : World) (b : Nat) (F : Nat → Prop) (bl : List UInt8) (e : Ending) (w' : World) : Prop := e = .returned (.int .i64 0) ∧ WfP w b F bl w'
set_option maxHeartbeats 1000000 in
theorem twrite (T b s lo : Nat) (F : Nat → Prop) (l : List Nat) (bl : List UInt8) (w : World) (h : Tab2 w lo T l) (hw : Wf w b F bl) (hs : Has l s) (hl : Low l) (hbl : bl.length ≤ 1073741824) :
    Calls Tryz.prog 48 #[.pointer (some ⟨T, 0, none⟩), .pointer (some ⟨b, 0, none⟩), .int .i64 s] w (WroteP w b F (bl ++ code l s)) := by
  have HB := Lib.hid (tbits T s lo l w h hs.1)
  have hx := ln_le l s hl
  have hx0 := hs.2
  have htl := td_lt l s hl
  have htd : td l s < 2 ^ ln l s := rv_lt _ _
  have hsl := hs.1
  obtain ⟨A1, A2, A3, A4, c1, c2, c3, c4, h0, h1, h2, l3, l4, hT⟩ := h
  have t1 := h0.cell 1 rfl
  obtain ⟨b2, off2, rfl, _, q⟩ := h2 s _ (hints_at (tds l) s (by rw [tds_length]; exact hsl))
  rw [show ln (tds l) s = td l s from map_at _ _ s hsl] at q
  have HP := Lib.hid (wput b (td l s) (ln l s) F bl w hw hbl (by omega) (by omega))
  have hcode : nb (td l s) (ln l s) = code l s := nb_rv (ln l s) (cd l s)
  rw [hcode] at HP
  obtain ⟨R, hR⟩ : ∃ R, bl ++ code l s = R := ⟨_, rfl⟩
  rw [hR] at HP ⊢
  obtain ⟨x, hx1⟩ : ∃ x, ln l s = x := ⟨_, rfl⟩
  obtain ⟨t, ht1⟩ : ∃ t, td l s = t := ⟨_, rfl⟩
  obtain ⟨N, hN⟩ : ∃ N, l.length = N := ⟨_, rfl⟩
  rw [hx1] at HB hx hx0 HP
  rw [ht1] at q htl HP
  rw [hN] at t1 hsl
  have hx2 : ¬ (x : Int) = 0 := by omega
  clear h0 h1 h2 l3 l4 hx1 ht1 hN hw hs hl htd hcode hR
  go_enter Tryz.func48, Tryz.ntmps48
  go_wp2_with fail
  refine HB.out.mono ?_
  rintro e w' ⟨rfl, rfl⟩
  go_wp2_with fail
  refine HP.out.mono ?_
  rintro e w2 ⟨rfl, hw2⟩
  have HW := Lib.hid hw2
  clear hw2 HP HB
  go_wp2
  go_ret
  exact ⟨rfl, HW.out⟩
end Go.Proofs.YtjlkjebmilfgoaaGreat

/- Layer 2: the bytes of a number, by the program. -/
namespace Go.Proofs.YtjlkjebmilfgoaaGreat
open Go.RowKit

/-- make([]byte, k): a row of zeros. -/
theorem bmake_row {P : Program} {t e : TypeId} (ht : P.underlying t = some (.slice e)) (hi : (P.info? e).map (fun i => (i.zero, i.size, i.bytes)) = some (some (.int .u8 0), 1, 1)) (k : Nat) (hk : k ≤ 1073741824) (w : World) :
    (Instr.makeSlice t (.int .i64 k) (.int .i64 k)).run P w = .ok (.slice (some ⟨w.heap.size, 0, none⟩) k k) (w.alloc (.cells (bcells (List.replicate k 0)).toArray e)) := by
  obtain ⟨i, hi, hz, hsz, hby⟩ := info_parts hi
  have h := run_make (P := P) w t e i (.int .u8 0) ht hi hz .i64 .i64 k k (by omega) (by omega) (by rw [hby]; omega) (by omega)
  have e1 : madeCells (Value.int .u8 0).cells (k * 1) = (bcells (List.replicate k 0)).toArray := by
    apply Array.ext'
    rw [Value.cells, toList_madeCells_one]
    · simp [bcells]
    all_goals intros; simp_all
  rw [Int.toNat_natCast, hsz, e1] at h
  exact h
theorem BRow.made (e : TypeId) (w : World) (k : Nat) (hk : k ≤ 1073741824) : BRow e (w.alloc (.cells (bcells (List.replicate k 0)).toArray e)) (some ⟨w.heap.size, 0, none⟩) k k (List.replicate k 0) := by
  refine ⟨by simp, by simp [bcells], .inr ⟨w.heap.size, k, _, rfl, Nat.zero_le _, heap_alloc_new w _, Nat.le_refl _, by unfold maxLen; omega, by simp [bcells], by simp [bcells]⟩⟩

/-- The k lowest bytes of a number, the lowest first. -/
def bytesOf (v : Nat) : Nat → List UInt8
  | 0 => []
  | k + 1 => bytesOf v k ++ [UInt8.ofNat (v / 256 ^ k)]
theorem bytesOf_length (v : Nat) : ∀ k, (bytesOf v k).length = k
  | 0 => rfl
  | k + 1 => by simp [bytesOf, bytesOf_length v k]
theorem le_bytesOf (v : Nat) : ∀ k, le (bytesOf v k) = v % 256 ^ k
  | 0 => by simp [bytesOf, le, Nat.mod_one]
  | k + 1 => by
    rw [bytesOf, le_append, le_bytesOf v k, bytesOf_length, Nat.pow_succ, Nat.mod_mul]
    simp [le, UInt8.toNat_ofNat']

/-- A row whose first j bytes are written. -/
def begun (v k j : Nat) : List UInt8 := bytesOf v j ++ List.replicate (k - j) 0
theorem begun_set (v k j : Nat) (h : j < k) : (begun v k j).set j (UInt8.ofNat (v / 256 ^ j)) = begun v k (j + 1) := by
  unfold begun
  rw [List.set_append_right _ _ (by rw [bytesOf_length]; exact Nat.le_refl _), bytesOf_length, Nat.sub_self, show k - j = (k - (j + 1)) + 1 from by omega, List.replicate_succ, List.set_cons_zero, bytesOf, List.append_assoc]
  rfl

set_option maxHeartbeats 1000000 in
theorem ftext (v k : Nat) (w : World) (_hv : v ≤ 18446744073709551615) (hk : k ≤ 8) : Calls Tryz.prog 42 #[.int .u64 v, .int .i64 k] w fun e w' => e = .returned (.string ⟨(bytesOf v k).toArray⟩) ∧ Only (fun _ => False) w w' := by
  obtain ⟨M, hM⟩ : ∃ M, M = (bcells (List.replicate k 0)).toArray := ⟨_, rfl⟩
  have hmk : ∀ W : World, (Instr.makeSlice 34 (.int .i64 k) (.int .i64 k)).run Tryz.prog W = .ok (.slice (some ⟨W.heap.size, 0, none⟩) k k) (W.alloc (.cells M 5)) := by
    intro W
    rw [hM]
    exact bmake_row Tryz.underlying34 info5 k (by omega) W
  have hrow : BRow 5 (w.alloc (.cells M 5)) (some ⟨w.heap.size, 0, none⟩) k k (begun v k 0) := by
    rw [hM]
    exact BRow.made 5 w k (by omega)
  have hmade : BMade w (some ⟨w.heap.size, 0, none⟩) k k (begun v k 0) (w.alloc (.cells M 5)) := ⟨hrow, (Only.refl _ w).alloc _, by rintro j ⟨ad, e, rfl⟩; obtain rfl := Option.some.inj e; exact Nat.le_refl _⟩
  have HM := Lib.hid hmade
  clear hM hrow hmade
  go_enter Tryz.func42, Tryz.ntmps42
  go_wp2_with fail
  obtain ⟨g, hg⟩ : ∃ g, w.heap.size = g := ⟨_, rfl⟩
  obtain ⟨wa, hwa⟩ : ∃ wa, w.alloc (.cells M 5) = wa := ⟨_, rfl⟩
  rw [hwa, hg] at HM
  rw [hwa, hg]
  have HG := Lib.hid hg
  clear hmk hwa hg
  go_loopg [11] k (fun gk i wx => ∃ j : Nat, i = .int .i64 j ∧ j + gk ≤ k ∧ k ≤ j + gk ∧ BMade w (some ⟨g, 0, none⟩) k k (begun v k j) wx)
  case atStart => exact ⟨0, rfl, by omega, by omega, HM.out⟩
  case round =>
    obtain ⟨j, rfl, hj, hj2, hM⟩ := hrel
    clear HM
    by_cases hlt : j < k
    · obtain ⟨g', hA, cl, fl⟩ := hM.1.cell hlt
      obtain rfl : g = g' := by simpa using hA
      have HM := Lib.hid hM
      clear hM hA
      have hb : Hid ((v : Int) / 2 ^ (j * 8) % 256 = ((UInt8.ofNat (v / 256 ^ j)).toNat : Int)) := by
        show (v : Int) / 2 ^ (j * 8) % 256 = _
        rw [pow256, Nat.mul_comm 8 j, UInt8.toNat_ofNat', show ((2 : Int) ^ (j * 8)) = ((2 ^ (j * 8) : Nat) : Int) from by simp]
        omega
      go_wp2
      go_roundg (gk - 1)
      case measure => omega
      case rel =>
        rw [hb.out]
        refine ⟨j + 1, by go_num, by omega, by omega, ?_, HM.out.2.1.set (.inr (HM.out.2.2 g ⟨_, rfl, rfl⟩)) _, HM.out.2.2⟩
        rw [← begun_set v k j hlt]
        exact HM.out.1.stored j _
    · obtain rfl : k = j := by omega
      have hc := hM.1.toText Tryz.underlying34 Tryz.underlying5 Tryz.underlying9
      rw [show begun v k k = bytesOf v k from by simp [begun]] at hc
      have HM := Lib.hid hM
      clear hM
      go_wp2
      go_ret
      exact ⟨rfl, HM.out.2.1⟩

theorem p16 (n : Int) (v : Nat) (w : World) (hv : v ≤ 18446744073709551615) (h : IntKind.u64.wrap n = v) : Calls Tryz.prog 23 #[.int .i64 n] w fun e w' => e = .returned (.string ⟨(bytesOf v 2).toArray⟩) ∧ Only (fun _ => False) w w' := by
  go_enter Tryz.func23, Tryz.ntmps23
  go_wp2_with (go_at_call 42; refine (ftext v 2 _ hv (by omega)).mono ?_; rintro e w' ⟨rfl, hb⟩; have HB := Lib.hid hb; clear hb)
  go_ret
  exact ⟨rfl, HB.out⟩
end Go.Proofs.YtjlkjebmilfgoaaGreat

/- Layer 11, the program: what a block begins with; a block of bytes. -/
namespace Go.Proofs.YtjlkjebmilfgoaaGreat
open Go.RowKit

/-- The bits with which a block begins. -/
def headB (kind : Nat) (last : Bool) : List UInt8 := nb (if last then 1 else 0) 1 ++ nb kind 2
theorem headB_length (kind : Nat) (last : Bool) : (headB kind last).length = 3 := by simp [headB, nb_length]
theorem headB_bits (kind : Nat) (last : Bool) : Bits (headB kind last) := bits_append (nb_bits _ _) (nb_bits _ _)
set_option maxHeartbeats 1000000 in
theorem whead (b k : Nat) (last : Bool) (F : Nat → Prop) (bl : List UInt8) (w : World) (h : Wf w b F bl) (hbl : bl.length ≤ 1000000000) (hk : k ≤ 3) :
    Calls Tryz.prog 21 #[.pointer (some ⟨b, 0, none⟩), .int .u32 k, .bool last] w (PutW w b F (bl ++ headB k last)) := by
  have HP : Hid (∀ x : Nat, x = (if last then 1 else 0) → Calls Tryz.prog 7 #[.pointer (some ⟨b, 0, none⟩), .int .u32 x, .int .i64 1] w (PutW w b F (bl ++ nb (if last then 1 else 0) 1))) := Lib.hid fun x hx => by
    subst hx
    exact wput b (if last then 1 else 0) 1 F bl w h (by omega) (by split <;> omega) (by decide)
  have HQ : Hid (∀ w1, WfP w b F (bl ++ nb (if last then 1 else 0) 1) w1 → Calls Tryz.prog 7 #[.pointer (some ⟨b, 0, none⟩), .int .u32 k, .int .i64 2] w1 (PutW w b F (bl ++ headB k last))) := Lib.hid fun w1 h1 => by
    refine (wput b k 2 _ _ w1 h1.wf (by rw [List.length_append, nb_length]; omega) (by omega) (by decide)).mono ?_
    rintro e w2 ⟨rfl, h2⟩
    refine ⟨rfl, ?_⟩
    rw [headB, ← List.append_assoc]
    exact h1.step h2
  clear h
  cases last with
  | true =>
    have HP1 := Lib.hid (HP.out 1 rfl)
    clear HP
    go_enter Tryz.func21, Tryz.ntmps21
    go_wp2_with fail
    refine HP1.out.mono ?_
    rintro e w1 ⟨rfl, h1⟩
    have HC := Lib.hid (HQ.out w1 h1)
    clear h1 HP1 HQ
    go_wp2_with fail
    refine HC.out.mono ?_
    rintro e w2 ⟨rfl, h2⟩
    have H2 := Lib.hid h2
    clear h2 HC
    go_wp2
    go_end0
    exact ⟨rfl, H2.out⟩
  | false =>
    have HP1 := Lib.hid (HP.out 0 rfl)
    clear HP
    go_enter Tryz.func21, Tryz.ntmps21
    go_wp2_with fail
    refine HP1.out.mono ?_
    rintro e w1 ⟨rfl, h1⟩
    have HC := Lib.hid (HQ.out w1 h1)
    clear h1 HP1 HQ
    go_wp2_with fail
    refine HC.out.mono ?_
    rintro e w2 ⟨rfl, h2⟩
    have H2 := Lib.hid h2
    clear h2 HC
    go_wp2
    go_end0
    exact ⟨rfl, H2.out⟩

/-- All bits of a number turned. -/
theorem not_i64 (n : Nat) (h : n < 4294967296) : bits .xor .i64 (-1) (n : Int) = -(n : Int) - 1 := by
  unfold bits
  simp only [IntKind.bits]
  have e1 : BitVec.ofInt 64 (-1) = BitVec.allOnes 64 := by decide
  have e2 : (BitVec.ofInt 64 (n : Int)).toNat = n := by simp; omega
  have e3 : (BitVec.ofInt 64 (-1) ^^^ BitVec.ofInt 64 (n : Int)).toNat = 18446744073709551615 - n := by
    rw [e1, BitVec.allOnes_xor, BitVec.toNat_not, e2]
  show IntKind.i64.wrap (((BitVec.ofInt 64 (-1) ^^^ BitVec.ofInt 64 (n : Int)).toNat : Nat) : Int) = _
  rw [e3, IntKind.wrap_i64]
  omega

/-- The bits of a block of kind 0, behind bits bl. -/
def storedB (bl : List UInt8) (s : ByteArray) (last : Bool) : List UInt8 := alignB (bl ++ headB 0 last) ++ (bitsOf (bytesOf s.size 2 ++ bytesOf (18446744073709551615 - s.size) 2) ++ bitsOf s.data.toList)
theorem bitsOf_append (a b : List UInt8) : bitsOf (a ++ b) = bitsOf a ++ bitsOf b := by simp [bitsOf]
def StP (w : World) (b : Nat) (F : Nat → Prop) (bl : List UInt8) (e : Ending) (w' : World) : Prop := e = .returned (.int .i64 0) ∧ WfP w b F bl w'
theorem alignB_full (bl : List UInt8) (h : bl.length % 8 = 0) : alignB bl = bl := by
  unfold alignB
  rw [show (bl.length + 7) / 8 * 8 - bl.length = 0 by omega]
  simp
set_option maxRecDepth 20000 in
set_option maxHeartbeats 1000000 in
theorem stored (b : Nat) (s : ByteArray) (last : Bool) (F : Nat → Prop) (bl : List UInt8) (w : World) (h : Wf w b F bl) (hbl : bl.length ≤ 100000000) (hs : s.size ≤ 65535) :
    Calls Tryz.prog 8 #[.pointer (some ⟨b, 0, none⟩), .string s, .bool last] w (StP w b F (storedB bl s last)) := by
  have HH := Lib.hid (whead b 0 last F bl w h (by omega) (by decide))
  obtain ⟨n, hn⟩ : ∃ n, s.size = n := ⟨_, rfl⟩
  obtain ⟨P, hP⟩ : ∃ P : ByteArray, (⟨(bytesOf n 2).toArray⟩ : ByteArray) = P := ⟨_, rfl⟩
  obtain ⟨Q, hQ⟩ : ∃ Q : ByteArray, (⟨(bytesOf (18446744073709551615 - n) 2).toArray⟩ : ByteArray) = Q := ⟨_, rfl⟩
  have H1 : Hid (∀ w1, Calls Tryz.prog 23 #[.int .i64 n] w1 fun e w' => e = .returned (.string P) ∧ Only (fun _ => False) w1 w') := Lib.hid fun w1 => by
    rw [← hP]
    exact p16 n n w1 (by omega) (by rw [IntKind.wrap_u64]; omega)
  have H2 : Hid (∀ w1, Calls Tryz.prog 23 #[.int .i64 (-(n : Int) - 1)] w1 fun e w' => e = .returned (.string Q) ∧ Only (fun _ => False) w1 w') := Lib.hid fun w1 => by
    rw [← hQ]
    exact p16 (-(n : Int) - 1) (18446744073709551615 - n) w1 (by omega) (by rw [IntKind.wrap_u64]; omega)
  have hal : (alignB (bl ++ headB 0 last) ++ bitsOf (bytesOf n 2 ++ bytesOf (18446744073709551615 - n) 2)).length % 8 = 0 ∧ (alignB (bl ++ headB 0 last) ++ bitsOf (bytesOf n 2 ++ bytesOf (18446744073709551615 - n) 2)).length ≤ bl.length + 100 := by
    have e4 : (bytesOf n 2 ++ bytesOf (18446744073709551615 - n) 2).length = 4 := by rw [List.length_append, bytesOf_length, bytesOf_length]
    rw [List.length_append, alignB_length, bitsOf_length, e4, List.length_append, headB_length]
    omega
  have HW1 : Hid (∀ w1 w2 : World, WfP w b F (bl ++ headB 0 last) w1 → Only (fun _ => False) w1 w2 → Calls Tryz.prog 22 #[.pointer (some ⟨b, 0, none⟩), .string (P ++ Q)] w2 (PutW w b F (alignB (bl ++ headB 0 last) ++ bitsOf (bytesOf n 2 ++ bytesOf (18446744073709551615 - n) 2)))) := Lib.hid fun w1 w2 h1 ho => by
    have h2 := h1.new ho
    have e : (P ++ Q).data.toList = bytesOf n 2 ++ bytesOf (18446744073709551615 - n) 2 := by rw [← hP, ← hQ]; simp
    have e2 : (P ++ Q).size = 4 := by
      rw [ByteArray.size_append, ← hP, ← hQ]
      show (bytesOf n 2).toArray.size + (bytesOf (18446744073709551615 - n) 2).toArray.size = 4
      simp [bytesOf_length]
    refine (wwrite b _ _ (P ++ Q) w2 h2.wf (by rw [List.length_append, headB_length]; omega) (by omega)).mono ?_
    rintro e3 w3 ⟨rfl, h3⟩
    rw [e] at h3
    exact ⟨rfl, h2.step h3⟩
  have HW2 : Hid (∀ w1 : World, WfP w b F (alignB (bl ++ headB 0 last) ++ bitsOf (bytesOf n 2 ++ bytesOf (18446744073709551615 - n) 2)) w1 → Calls Tryz.prog 22 #[.pointer (some ⟨b, 0, none⟩), .string s] w1 (PutW w b F (storedB bl s last))) := Lib.hid fun w1 h1 => by
    refine (wwrite b _ _ s w1 h1.wf (by omega) (by omega)).mono ?_
    rintro e3 w3 ⟨rfl, h3⟩
    rw [alignB_full _ hal.1, List.append_assoc] at h3
    refine ⟨rfl, ?_⟩
    rw [storedB, hn]
    exact h1.step h3
  have hlt : ¬ (65535 : Int) < (n : Int) := by omega
  have hnot := not_i64 n (by omega)
  have hps : P.size = 2 := by rw [← hP]; show (bytesOf n 2).toArray.size = 2; simp [bytesOf_length]
  have hqs : Q.size = 2 := by rw [← hQ]; show (bytesOf (18446744073709551615 - n) 2).toArray.size = 2; simp [bytesOf_length]
  clear h hP hQ hal
  generalize storedB bl s last = R at HW2 ⊢
  generalize alignB (bl ++ headB 0 last) ++ bitsOf (bytesOf n 2 ++ bytesOf (18446744073709551615 - n) 2) = R1 at HW1 HW2
  generalize bl ++ headB 0 last = R0 at HH HW1
  go_enter Tryz.func8, Tryz.ntmps8
  go_wp2_with fail
  refine HH.out.mono ?_
  rintro e w1 ⟨rfl, h1⟩
  have HA := Lib.hid (HW1.out w1)
  have HB := Lib.hid h1
  clear h1 HH HW1
  go_wp2_with fail
  refine (H1.out w1).mono ?_
  rintro e w2 ⟨rfl, o2⟩
  have HO2 := Lib.hid o2
  clear o2
  go_wp2_with fail
  refine (H2.out w2).mono ?_
  rintro e w3 ⟨rfl, o3⟩
  have HC := Lib.hid (HA.out w3 HB.out (HO2.out.trans o3))
  clear o3 HA HB HO2
  go_wp2_with fail
  refine HC.out.mono ?_
  rintro e w4 ⟨rfl, h4⟩
  have HD := Lib.hid (HW2.out w4 h4)
  clear h4 HC HW2
  go_wp2_with fail
  refine HD.out.mono ?_
  rintro e w5 ⟨rfl, h5⟩
  have HE := Lib.hid h5
  clear h5 HD
  go_wp2
  go_ret
  exact ⟨rfl, HE.out⟩

theorem stored_great (b : Option Addr) (s : ByteArray) (last : Bool) (w : World) (hs : 65535 < s.size) (hs2 : s.size ≤ 1000000) :
    Calls Tryz.prog 8 #[.pointer b, .string s, .bool last] w fun e w' => e = .returned (.int .i64 7) ∧ w = w' := by
  obtain ⟨n, hn⟩ : ∃ n, s.size = n := ⟨_, rfl⟩
  have hlt : (65535 : Int) < (n : Int) := by omega
  go_enter Tryz.func8, Tryz.ntmps8
  go_wp2
  go_ret
  exact ⟨rfl, rfl⟩
end Go.Proofs.YtjlkjebmilfgoaaGreat
