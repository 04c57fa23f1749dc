/- A writer by its bits, and where it may lie; a number put, bytes written, a symbol written by a table. -/
import Derived.Test.YtoclbodmibagpaaBWriteb
import Derived.Test.YtoclbodmibagpaaM6
namespace Go.Proofs.Ytoclbodmibagpaa
open Go.RowKit

/-- A writer that holds the bits bl; it, and its bytes, lie in F. -/
def Wf (w : World) (b : Nat) (F : Nat → Prop) (bl : List UInt8) : Prop := ∃ A n c l, Wrt w b A n c bl.length l ∧ le l = le2 bl ∧ F b ∧ ∀ j, Lies A j → F j
section
variable {w w0 w1 w' : World} {b : Nat} {F G S : Nat → Prop} {bl bl' : List UInt8}
theorem Wf.mono (h : Wf w b F bl) (hF : ∀ j, F j → G j) : Wf w b G bl := by
  obtain ⟨A, n, c, l, hw, he, hb, hA⟩ := h
  exact ⟨A, n, c, l, hw, he, hF b hb, fun j hj => hF j (hA j hj)⟩
theorem Wf.tight (h : Wf w b F bl) : Wf w b (fun j => F j ∧ j < w.heap.size) bl := by
  obtain ⟨A, n, c, l, hw, he, hb, hA⟩ := h
  exact ⟨A, n, c, l, hw, he, ⟨hb, hw.wr.1.lt⟩, fun j hj => ⟨hA j hj, hw.wr.2.lt j hj⟩⟩
theorem Wf.far (h : Wf w b F bl) (k : Only S w w') (hS : ∀ j, F j → ¬ S j) : Wf w' b F bl := by
  obtain ⟨A, n, c, l, hw, he, hb, hA⟩ := h
  exact ⟨A, n, c, l, ⟨⟨hw.wr.1.only k (hS b hb), hw.wr.2.only k fun j hj => hS j (hA j hj)⟩, hw.len, hw.lt⟩, he, hb, hA⟩
theorem Wf.new (h : Wf w b F bl) (k : Only (fun _ => False) w w') : Wf w' b F bl := h.far k fun _ _ f => f
/-- What calls leave that have written to a writer since w0. -/
structure WfP (w0 : World) (b : Nat) (F : Nat → Prop) (bl : List UInt8) (w : World) : Prop where
  wf : Wf w b (fun j => F j ∨ w0.heap.size ≤ j) bl
  only : Only F w0 w
theorem WfP.start (h : Wf w b F bl) : WfP w b F bl w := ⟨h.mono fun _ h => .inl h, Only.refl _ w⟩
theorem WfP.step (h : WfP w0 b F bl w) (k : WfP w b (fun j => F j ∨ w0.heap.size ≤ j) bl' w') : WfP w0 b F bl' w' := by
  have hs := h.only.size
  exact ⟨k.wf.mono fun j hj => hj.elim id fun h2 => .inr (by omega), h.only.andThen k.only fun j hj => hj⟩
theorem WfP.new (h : WfP w0 b F bl w) (k : Only (fun _ => False) w w') : WfP w0 b F bl w' := ⟨h.wf.new k, h.only.trans (k.mono fun _ f => f.elim)⟩
theorem WfP.mono (h : WfP w0 b F bl w) (hF : ∀ j, F j → G j) : WfP w0 b G bl w := ⟨h.wf.mono fun j hj => hj.imp (hF j) id, h.only.mono hF⟩
theorem WfP.late (k : Only (fun _ => False) w0 w) (h : WfP w b F bl w') : WfP w0 b F bl w' := by
  have hs := k.size
  exact ⟨h.wf.mono fun j hj => hj.imp id fun h2 => by omega, (k.mono fun _ f => f.elim).trans h.only⟩
theorem Wf.row {A A' : Option Addr} {n' c' : Nat} {l' : List UInt8} (hA : ∀ j, Lies A j → F j) (hb : F b) (hw : Wrt w' b A' n' c' bl'.length l') (he : le l' = le2 bl') (ho : Only (fun j => j = b ∨ Lies A j) w w') (ha : A' = A ∨ ∃ g, A' = some ⟨g, 0, none⟩ ∧ w.heap.size ≤ g) : WfP w b F bl' w' := by
  refine ⟨⟨A', n', c', l', hw, he, .inl hb, fun j hj => ?_⟩, ho.mono fun j hj => hj.elim (fun e => e ▸ hb) (hA j)⟩
  rcases ha with e | ⟨g, e, hg⟩
  · exact .inl (hA j (e ▸ hj))
  · obtain ⟨ad, e1, rfl⟩ := hj
    rw [e] at e1
    obtain rfl := Option.some.inj e1
    exact .inr hg
end

theorem newWf (w : World) : Calls Try.prog 18 #[] w fun e w' => e = .returned (.pointer (some ⟨w.heap.size, 0, none⟩)) ∧ Wf w' w.heap.size (fun j => j = w.heap.size) [] ∧ Only (fun _ => False) w w' := by
  refine (newWriter w).mono ?_
  rintro e w' ⟨rfl, rfl⟩
  exact ⟨rfl, ⟨none, 0, 0, [], ⟨⟨Is.new w 84 _, BRow.nil 5 _⟩, rfl, by decide⟩, rfl, rfl, by rintro j ⟨ad, e, _⟩; cases e⟩, (Only.refl _ w).alloc _⟩

def PutW (w : World) (b : Nat) (F : Nat → Prop) (bl : List UInt8) (e : Ending) (w' : World) : Prop := e = .returned (.tuple #[]) ∧ WfP w b F bl w'
theorem wput (b v m : Nat) (F : Nat → Prop) (bl : List UInt8) (w : World) (h : Wf w b F bl) (hbl : bl.length ≤ 1073741824) (hv : v < 4294967296) (hm : m ≤ 32) :
    Calls Try.prog 57 #[.pointer (some ⟨b, 0, none⟩), .int .u32 v, .int .i64 m] w (PutW w b F (bl ++ nb v m)) := by
  obtain ⟨A, n, c, l, hw, he, hb, hA⟩ := h
  have hcl : clamp (m : Int) = m := by unfold clamp; omega
  have HP := put b A n c bl.length v m l w hw hbl hv
  rw [hcl] at HP
  refine HP.mono ?_
  rintro e w' ⟨rfl, A', n', c', l', hw2, hn2, he2, ho2, ha2⟩
  have hlen : (bl ++ nb v m).length = bl.length + m := by rw [List.length_append, nb_length]
  refine ⟨rfl, Wf.row (l' := l') hA hb (n' := n') (c' := c') (A' := A') ⟨by rw [hlen]; exact hw2, by rw [hlen]; exact hn2, ?_⟩ ?_ ho2 ha2⟩
  · rw [hlen, he2]
    exact put_lt _ _ _ _ hw.lt (Nat.mod_lt _ (Nat.pow_pos (by decide)))
  · rw [he2, le2_append, le2_nb, he, Nat.mul_comm]
theorem wlen (b : Nat) (F : Nat → Prop) (bl : List UInt8) (w : World) (h : Wf w b F bl) :
    Calls Try.prog 20 #[.pointer (some ⟨b, 0, none⟩)] w fun e w' => e = .returned (.int .i64 bl.length) ∧ w = w' := by
  obtain ⟨A, n, c, l, hw, he, hb, hA⟩ := h
  exact wrLen b A n c bl.length l w hw.wr
/-- What Text answers. -/
def TextIs (bl : List UInt8) (t : ByteArray) : Prop := t.size = (bl.length + 7) / 8 ∧ le t.data.toList = le2 bl
theorem wtext (b : Nat) (F : Nat → Prop) (bl : List UInt8) (w : World) (h : Wf w b F bl) :
    Calls Try.prog 21 #[.pointer (some ⟨b, 0, none⟩)] w fun e w' => (∃ t, e = .returned (.string t) ∧ TextIs bl t) ∧ w = w' := by
  obtain ⟨A, n, c, l, hw, he, hb, hA⟩ := h
  refine (text b A n c bl.length l w hw.wr).mono ?_
  rintro e w' ⟨rfl, rfl⟩
  exact ⟨⟨_, rfl, by show l.toArray.size = _; rw [List.size_toArray, hw.wr.2.len]; exact hw.len, he⟩, rfl⟩

/-- Bits up to the end of a byte. -/
def alignB (bl : List UInt8) : List UInt8 := bl ++ List.replicate ((bl.length + 7) / 8 * 8 - bl.length) 0
theorem alignB_length (bl : List UInt8) : (alignB bl).length = (bl.length + 7) / 8 * 8 := by
  unfold alignB
  rw [List.length_append, List.length_replicate]
  omega
theorem le2_alignB (bl : List UInt8) : le2 (alignB bl) = le2 bl := by
  unfold alignB
  rw [le2_append, le2_zeros, Nat.mul_zero, Nat.add_zero]
theorem wwrite (b : Nat) (F : Nat → Prop) (bl : List UInt8) (s : ByteArray) (w : World) (h : Wf w b F bl) (hbl : bl.length ≤ 1000000000) (hs : s.size ≤ 1000000) :
    Calls Try.prog 36 #[.pointer (some ⟨b, 0, none⟩), .string s] w (PutW w b F (alignB bl ++ bitsOf s.data.toList)) := by
  obtain ⟨A, n, c, l, hw, he, hb, hA⟩ := h
  have hn := hw.len
  refine (wrWrite b A n c bl.length l s w hw.wr (by omega)).mono ?_
  rintro e w' ⟨rfl, A', c', hw2, ho2, ha2⟩
  have hsz : s.data.toList.length = s.size := by simp
  have hll : l.length = n := hw.wr.2.len
  have hlen : (alignB bl ++ bitsOf s.data.toList).length = 8 * (n + s.data.toList.length) := by rw [List.length_append, alignB_length, bitsOf_length]; omega
  refine ⟨rfl, Wf.row (l' := l ++ s.data.toList) hA hb (n' := n + s.data.toList.length) (c' := c') (A' := A') ⟨by rw [hlen]; exact hw2, by rw [hlen]; omega, ?_⟩ ?_ ho2 ha2⟩
  · rw [hlen]
    have := le_lt (l ++ s.data.toList)
    rw [pow256, List.length_append, hll] at this
    exact this
  · rw [le2_append, le_append, le2_alignB, le2_bitsOf, he, alignB_length, hll, hn, pow256, Nat.mul_comm 8]

/-- Block T is a table of the code that l makes, whole; all that it leads to lies from lo up to T. -/
def Tab2 (w : World) (lo T : Nat) (l : List Nat) : Prop := ∃ (A1 A2 A3 A4 : Option Addr) (c1 c2 c3 c4 : Nat),
  Is w T 164 [.slice A1 l.length c1, .slice A2 l.length c2, .slice A3 (st l 16) c3, .slice A4 (lg l) c4] ∧
  See w T A1 (ints l) ∧ See w T A2 (hints (tds l)) ∧ (∀ j, Lies A1 j → lo ≤ j) ∧ (∀ j, Lies A2 j → lo ≤ j) ∧ lo ≤ T
section
variable {w w' : World} {lo l2 T : Nat} {l : List Nat} {X : Nat → Prop}
theorem Tab2.keep (h : Tab2 w lo T l) (k : Only X w w') (hd : ∀ j, lo ≤ j → j ≤ T → ¬ X j) : Tab2 w' lo T l := by
  obtain ⟨A1, A2, A3, A4, c1, c2, c3, c4, h0, h3, h4, l3, l4, hT⟩ := h
  exact ⟨A1, A2, A3, A4, c1, c2, c3, c4, h0.only k (hd T hT (Nat.le_refl _)), h3.apart l3 k (fun j a b => hd j a (Nat.le_of_lt b)), h4.apart l4 k (fun j a b => hd j a (Nat.le_of_lt b)), l3, l4, hT⟩
theorem Tab2.new (h : Tab2 w lo T l) (k : Only (fun _ => False) w w') : Tab2 w' lo T l := h.keep k fun _ _ _ f => f
theorem Tab2.lt (h : Tab2 w lo T l) : T < w.heap.size := by
  obtain ⟨A1, A2, A3, A4, c1, c2, c3, c4, h0, _⟩ := h
  exact h0.lt
theorem Tab2.lo_le (h : Tab2 w lo T l) : lo ≤ T := by
  obtain ⟨A1, A2, A3, A4, c1, c2, c3, c4, _, _, _, _, _, h0⟩ := h
  exact h0
theorem Tab2.less (h : Tab2 w lo T l) (hl : l2 ≤ lo) : Tab2 w l2 T l := by
  obtain ⟨A1, A2, A3, A4, c1, c2, c3, c4, h0, h3, h4, l3, l4, hT⟩ := h
  exact ⟨A1, A2, A3, A4, c1, c2, c3, c4, h0, h3, h4, fun j hj => Nat.le_trans hl (l3 j hj), fun j hj => Nat.le_trans hl (l4 j hj), Nat.le_trans hl hT⟩
end
theorem tbits (T s lo : Nat) (l : List Nat) (w : World) (h : Tab2 w lo T l) (hs : s < l.length) : Calls Try.prog 108 #[.pointer (some ⟨T, 0, none⟩), .int .i64 s] w fun e w' => e = .returned (.int .i64 (ln l s : Nat)) ∧ w = w' := by
  obtain ⟨A1, A2, A3, A4, c1, c2, c3, c4, h0, h1, h2, l3, l4, hT⟩ := h
  have t0 := h0.cell 0 rfl
  obtain ⟨b, off, rfl, _, q⟩ := h1 s _ (ints_at l s hs)
  obtain ⟨x, hx⟩ : ∃ x, ln l s = x := ⟨_, rfl⟩
  obtain ⟨n, hn⟩ : ∃ n, l.length = n := ⟨_, rfl⟩
  rw [hx] at q ⊢
  rw [hn] at hs t0
  clear h0 h1 h2 l3 l4 hx hn
  go_enter Try.func108, Try.ntmps108
  go_wp2
  go_ret
  exact ⟨rfl, rfl⟩

theorem le2_inj : ∀ a b : List UInt8, Bits a → Bits b → a.length = b.length → le2 a = le2 b → a = b
  | [], [], _, _, _, _ => rfl
  | [], _ :: _, _, _, h, _ => by simp at h
  | _ :: _, [], _, _, h, _ => by simp at h
  | x :: a, y :: b, ha, hb, hl, h => by
    have h1 := ha x List.mem_cons_self
    have h2 := hb y List.mem_cons_self
    simp only [le2] at h
    have e : x = y := by
      apply UInt8.toNat_inj.1
      omega
    subst e
    rw [le2_inj a b (fun z hz => ha z (List.mem_cons_of_mem _ hz)) (fun z hz => hb z (List.mem_cons_of_mem _ hz)) (by simpa using hl) (by omega)]
theorem nb_rv (n x : Nat) : nb (rv n x) n = hb n x :=
  le2_inj _ _ (nb_bits _ _) (hb_bits _ _) (by rw [nb_length, hb_length]) (by rw [le2_nb, le2_hb, Nat.mod_eq_of_lt (rv_lt n x)])

/-- A symbol's code. -/
def code (l : List Nat) (s : Nat) : List UInt8 := hb (ln l s) (cd l s)
theorem code_length (l : List Nat) (s : Nat) : (code l s).length = ln l s := hb_length _ _
def WroteP (w : World) (b : Nat) (F : Nat → Prop) (bl : List UInt8) (e : Ending) (w' : World) : Prop := e = .returned (.int .i64 0) ∧ WfP w b F bl w'
set_option maxHeartbeats 1000000 in
theorem twrite (T b s lo : Nat) (F : Nat → Prop) (l : List Nat) (bl : List UInt8) (w : World) (h : Tab2 w lo T l) (hw : Wf w b F bl) (hs : Has l s) (hl : Low l) (hbl : bl.length ≤ 1073741824) :
    Calls Try.prog 75 #[.pointer (some ⟨T, 0, none⟩), .pointer (some ⟨b, 0, none⟩), .int .i64 s] w (WroteP w b F (bl ++ code l s)) := by
  have HB := Lib.hid (tbits T s lo l w h hs.1)
  have hx := ln_le l s hl
  have hx0 := hs.2
  have htl := td_lt l s hl
  have htd : td l s < 2 ^ ln l s := rv_lt _ _
  have hsl := hs.1
  obtain ⟨A1, A2, A3, A4, c1, c2, c3, c4, h0, h1, h2, l3, l4, hT⟩ := h
  have t1 := h0.cell 1 rfl
  obtain ⟨b2, off2, rfl, _, q⟩ := h2 s _ (hints_at (tds l) s (by rw [tds_length]; exact hsl))
  rw [show ln (tds l) s = td l s from map_at _ _ s hsl] at q
  have HP := Lib.hid (wput b (td l s) (ln l s) F bl w hw hbl (by omega) (by omega))
  have hcode : nb (td l s) (ln l s) = code l s := nb_rv (ln l s) (cd l s)
  rw [hcode] at HP
  obtain ⟨R, hR⟩ : ∃ R, bl ++ code l s = R := ⟨_, rfl⟩
  rw [hR] at HP ⊢
  obtain ⟨x, hx1⟩ : ∃ x, ln l s = x := ⟨_, rfl⟩
  obtain ⟨t, ht1⟩ : ∃ t, td l s = t := ⟨_, rfl⟩
  obtain ⟨N, hN⟩ : ∃ N, l.length = N := ⟨_, rfl⟩
  rw [hx1] at HB hx hx0 HP
  rw [ht1] at q htl HP
  rw [hN] at t1 hsl
  have hx2 : ¬ (x : Int) = 0 := by omega
  clear h0 h1 h2 l3 l4 hx1 ht1 hN hw hs hl htd hcode hR
  go_enter Try.func75, Try.ntmps75
  go_wp2_with fail
  refine HB.out.mono ?_
  rintro e w' ⟨rfl, rfl⟩
  go_wp2_with fail
  refine HP.out.mono ?_
  rintro e w2 ⟨rfl, hw2⟩
  have HW := Lib.hid hw2
  clear hw2 HP HB
  go_wp2
  go_ret
  exact ⟨rfl, HW.out⟩
end Go.Proofs.Ytoclbodmibagpaa
