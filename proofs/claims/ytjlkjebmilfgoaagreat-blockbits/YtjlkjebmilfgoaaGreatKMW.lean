/- Layer 11, the program: tokens written by two codes. -/
import Derived.Test.YtjlkjebmilfgoaaGreatKTok
import Derived.Test.YtjlkjebmilfgoaaGreatKW
/- Layer 11, the program: tokens written by two codes. -/
namespace Go.Proofs.YtjlkjebmilfgoaaGreat
open Go.RowKit

/-- Two tables, a writer that lies elsewhere. -/
structure CW (w : World) (b : Nat) (F : Nat → Prop) (bl : List UInt8) (lo hi T1 T2 : Nat) (la lb : List Nat) : Prop where
  cod : Cod2 w lo hi T1 T2 la lb
  wf : Wf w b F bl
  far : ∀ j, lo ≤ j → j ≤ hi → ¬ F j
theorem CW.new {w w' : World} {b : Nat} {F : Nat → Prop} {bl : List UInt8} {lo hi T1 T2 : Nat} {la lb : List Nat} (h : CW w b F bl lo hi T1 T2 la lb) (k : Only (fun _ => False) w w') : CW w' b F bl lo hi T1 T2 la lb := ⟨h.cod.new k, h.wf.new k, h.far⟩
theorem CW.wrote {w w' : World} {b : Nat} {F : Nat → Prop} {bl bl' : List UInt8} {lo hi T1 T2 : Nat} {la lb : List Nat} (h : CW w b F bl lo hi T1 T2 la lb) (k : WfP w b F bl' w') : CW w' b (fun j => F j ∨ w.heap.size ≤ j) bl' lo hi T1 T2 la lb :=
  ⟨h.cod.keep k.only h.far, k.wf, fun j h1 h2 hF => hF.elim (h.far j h1 h2) fun h3 => by have := h.cod.hh; omega⟩

set_option maxRecDepth 20000 in
set_option maxHeartbeats 4000000 in
theorem wmatch (b : Nat) (F : Nat → Prop) (bl : List UInt8) (lo hi T1 T2 : Nat) (la lb : List Nat) (t : Tk) (w : World) (h : CW w b F bl lo hi T1 T2 la lb) (hbl : bl.length ≤ 100000000) (hm : mayB t = true) (hn : ¬ t.n = 0) (hf : FitsT la lb t) :
    Calls Tryz.prog 49 #[.agg #[.pointer (some ⟨T1, 0, none⟩), .pointer (some ⟨T2, 0, none⟩)], .pointer (some ⟨b, 0, none⟩), tkV t] w (PutW w b F (bl ++ tokB la lb t)) := by
  obtain ⟨h1, h2, h3, h4⟩ := may_far t hm hn
  rw [FitsT, if_neg hn] at hf
  have htb : tokB la lb t = code la (lenT t.n).1 ++ (nb (lenT t.n).2.2 (lenT t.n).2.1 ++ (code lb (distT t.k).1 ++ nb (distT t.k).2.2 (distT t.k).2.1)) := if_neg hn
  obtain ⟨l1, l2, l3, l4, l5⟩ := lenT_is t.n h1 h2
  obtain ⟨d1, d2, d3, d4⟩ := distT_is t.k h3 h4
  obtain ⟨bb, tn, tk⟩ := t
  simp only at h1 h2 h3 h4 hf htb l1 l2 l3 l4 l5 d1 d2 d3 d4
  rw [htb]
  generalize lenT tn = L at hf l1 l2 l3 l4 l5 ⊢
  generalize distT tk = D at hf d1 d2 d3 d4 ⊢
  obtain ⟨y, v, m⟩ := L
  obtain ⟨d, v2, m2⟩ := D
  simp only at hf l1 l2 l3 l4 l5 d1 d2 d3 d4 ⊢
  have hp5 : 2 ^ v ≤ 2 ^ 5 := Nat.pow_le_pow_right (by decide) l4
  have hp13 : 2 ^ v2 ≤ 2 ^ 13 := Nat.pow_le_pow_right (by decide) d3
  obtain ⟨by_, hby⟩ : ∃ x, bb.toNat = x := ⟨_, rfl⟩
  unfold tkV
  rw [hby]
  -- the boxes
  obtain ⟨wa, hwa⟩ : ∃ wa, w.alloc (.cells #[.pointer (some ⟨T1, 0, none⟩), .pointer (some ⟨T2, 0, none⟩)] 65) = wa := ⟨_, rfl⟩
  obtain ⟨wb, hwb⟩ : ∃ wb, wa.alloc (.cells #[.int .u8 by_, .int .i64 tn, .int .i64 tk] 81) = wb := ⟨_, rfl⟩
  have hoa : Only (fun _ => False) w wa := by rw [← hwa]; exact (Only.refl _ w).alloc _
  have hob : Only (fun _ => False) wa wb := by rw [← hwb]; exact (Only.refl _ wa).alloc _
  obtain ⟨K, hK⟩ : ∃ K, w.heap.size = K := ⟨_, rfl⟩
  obtain ⟨K2, hK2⟩ : ∃ K2, wa.heap.size = K2 := ⟨_, rfl⟩
  have hIa : Is wb K 65 [.pointer (some ⟨T1, 0, none⟩), .pointer (some ⟨T2, 0, none⟩)] := by
    have : Is wa K 65 [.pointer (some ⟨T1, 0, none⟩), .pointer (some ⟨T2, 0, none⟩)] := by rw [← hwa, ← hK]; exact Is.new w _ _
    exact this.only hob fun f => f
  have hIb : Is wb K2 81 [.int .u8 by_, .int .i64 tn, .int .i64 tk] := by rw [← hwb, ← hK2]; exact Is.new wa _ _
  have hKK : K < K2 := by rw [← hK2, ← hwa, ← hK]; simp
  have hK2b : K2 < wb.heap.size := hIb.lt
  have hF : ∀ j, (F j ∧ j < w.heap.size) → ¬ (j = K ∨ j = K2) := fun j hj e => by omega
  have h0 : CW wb b (fun j => F j ∧ j < w.heap.size) bl lo hi T1 T2 la lb := ⟨h.cod.new (hoa.trans hob), h.wf.tight.new (hoa.trans hob), fun j a c hj => h.far j a c hj.1⟩
  have hfin : ∀ wz bl', WfP wb b (fun j => F j ∧ j < w.heap.size) bl' wz → WfP w b F bl' wz := fun wz bl' hz => ((hz.mono fun _ q => q.1).late (hoa.trans hob))
  have HFin := Lib.hid hfin
  obtain ⟨G, hG⟩ : ∃ G : Nat → Prop, (fun j => F j ∧ j < w.heap.size) = G := ⟨_, rfl⟩
  rw [hG] at h0 HFin
  have hF : ∀ j, G j → ¬ (j = K ∨ j = K2) := by rw [← hG]; exact hF
  -- what stands in each world behind
  have HC : Hid (∀ wx bl', WfP wb b G bl' wx → wx.cell? ⟨K, 0, none⟩ = some (.pointer (some ⟨T1, 0, none⟩)) ∧ wx.cell? ⟨K, 1, none⟩ = some (.pointer (some ⟨T2, 0, none⟩)) ∧ wx.cell? ⟨K2, 1, none⟩ = some (.int .i64 tn) ∧ wx.cell? ⟨K2, 2, none⟩ = some (.int .i64 tk) ∧
      CW wx b (fun j => G j ∨ wb.heap.size ≤ j) bl' lo hi T1 T2 la lb) := Lib.hid fun wx bl' hx => by
    have i1 := hIa.only hx.only fun e => hF K e (.inl rfl)
    have i2 := hIb.only hx.only fun e => hF K2 e (.inr rfl)
    exact ⟨i1.cell 0 rfl, i1.cell 1 rfl, i2.cell 1 rfl, i2.cell 2 rfl, h0.wrote hx⟩
  have HW : Hid (∀ wx (T s : Nat) (l : List Nat) (bl' : List UInt8), WfP wb b G bl' wx → bl'.length ≤ 100001000 → (T = T1 ∧ l = la ∨ T = T2 ∧ l = lb) → Has l s → Calls Tryz.prog 48 #[.pointer (some ⟨T, 0, none⟩), .pointer (some ⟨b, 0, none⟩), .int .i64 s] wx fun e w' => e = .returned (.int .i64 0) ∧ WfP wb b G (bl' ++ code l s) w') := Lib.hid fun wx T s l bl' hx hl hT hs => by
    have hcw := h0.wrote hx
    have htl : Tab2 wx lo T l ∧ Low l := by rcases hT with ⟨rfl, rfl⟩ | ⟨rfl, rfl⟩; exact ⟨hcw.cod.t1, hcw.cod.l1⟩; exact ⟨hcw.cod.t2, hcw.cod.l2⟩
    refine (twrite T b s lo _ l bl' wx htl.1 hx.wf hs htl.2 (by omega)).mono ?_
    rintro e w' ⟨rfl, hw'⟩
    exact ⟨rfl, hx.step hw'⟩
  have HP : Hid (∀ wx (x n : Nat) (bl' : List UInt8), WfP wb b G bl' wx → bl'.length ≤ 100001000 → x < 4294967296 → n ≤ 32 → Calls Tryz.prog 7 #[.pointer (some ⟨b, 0, none⟩), .int .u32 x, .int .i64 n] wx fun e w' => e = .returned (.tuple #[]) ∧ WfP wb b G (bl' ++ nb x n) w') := Lib.hid fun wx x n bl' hx hl h5 h6 => by
    refine (wput b x n _ bl' wx hx.wf (by omega) h5 h6).mono ?_
    rintro e w' ⟨rfl, hw'⟩
    exact ⟨rfl, hx.step hw'⟩
  have HST := Lib.hid (WfP.start h0.wf)
  have HL := Lib.hid (fun wx => length tn y v m true wx l1)
  have HD := Lib.hid (fun wx => distance tk d v2 m2 true wx d1)
  have hc1 : (code la y).length ≤ 15 := by rw [code_length]; exact ln_le la y h.cod.l1
  have hc2 : (code lb d).length ≤ 15 := by rw [code_length]; exact ln_le lb d h.cod.l2
  have HB1 : Hid ((bl ++ code la y).length ≤ 100000100) := Lib.hid (by rw [List.length_append]; omega)
  have HB2 : Hid ((bl ++ code la y ++ nb m v).length ≤ 100000200) := Lib.hid (by rw [List.length_append, List.length_append, nb_length]; omega)
  have HB3 : Hid ((bl ++ code la y ++ nb m v ++ code lb d).length ≤ 100000300) := Lib.hid (by rw [List.length_append, List.length_append, List.length_append, nb_length]; omega)
  have hmm : m < 4294967296 := by omega
  have hmm2 : m2 < 4294967296 := by omega
  have em : (m : Int) % 4294967296 = (m : Int) := by omega
  have em2 : (m2 : Int) % 4294967296 = (m2 : Int) := by omega
  have HH1 := Lib.hid hf.1
  have HH2 := Lib.hid hf.2
  have HEQ : Hid (bl ++ (code la y ++ (nb m v ++ (code lb d ++ nb m2 v2))) = bl ++ code la y ++ nb m v ++ code lb d ++ nb m2 v2) := Lib.hid (by simp only [List.append_assoc])
  rw [HEQ.out]
  have hs0 := HC.out wb bl HST.out
  have hh1 := hs0.1
  have hh2 := hs0.2.2.1
  clear h h0 hfin hG hF hIa hIb hKK hK2b hoa hob hf l1 d1 hc1 hc2 htb hs0 HEQ hp5 hp13 hm
  go_enter Tryz.func49, Tryz.ntmps49
  go_wp2_with fail
  refine (HL.out wb).mono ?_
  rintro e w1 ⟨rfl, o1⟩
  have H1 := Lib.hid (HST.out.new o1)
  clear o1 HL HST hh1 hh2
  obtain ⟨c0, c1, c2, c3, _⟩ := HC.out w1 _ H1.out
  go_wp2_with fail
  refine (HW.out w1 T1 y la _ H1.out (by omega) (.inl ⟨rfl, rfl⟩) HH1.out).mono ?_
  rintro e w2 ⟨rfl, q2⟩
  have H2 := Lib.hid q2
  clear q2 H1 c0 c1 c2 c3
  go_wp2_with fail
  refine (HP.out w2 m v _ H2.out (by have := HB1.out; omega) hmm (by omega)).mono ?_
  rintro e w3 ⟨rfl, q3⟩
  have H3 := Lib.hid q3
  clear q3 H2
  obtain ⟨c0, c1, c2, c3, _⟩ := HC.out w3 _ H3.out
  go_wp2_with fail
  refine (HD.out w3).mono ?_
  rintro e w4 ⟨rfl, o4⟩
  have H4 := Lib.hid (H3.out.new o4)
  clear o4 HD H3 c0 c1 c2 c3
  obtain ⟨c0, c1, c2, c3, _⟩ := HC.out w4 _ H4.out
  go_wp2_with fail
  refine (HW.out w4 T2 d lb _ H4.out (by have := HB2.out; omega) (.inr ⟨rfl, rfl⟩) HH2.out).mono ?_
  rintro e w5 ⟨rfl, q5⟩
  have H5 := Lib.hid q5
  clear q5 H4 c0 c1 c2 c3
  go_wp2_with fail
  refine (HP.out w5 m2 v2 _ H5.out (by have := HB3.out; omega) hmm2 (by omega)).mono ?_
  rintro e w6 ⟨rfl, q6⟩
  have H6 := Lib.hid (HFin.out _ _ q6)
  clear q6 H5
  go_wp2
  go_end0
  exact ⟨rfl, H6.out⟩
end Go.Proofs.YtjlkjebmilfgoaaGreat

/- Layer 11, the program: all tokens of a block, and its end, written by two codes. -/
namespace Go.Proofs.YtjlkjebmilfgoaaGreat
open Go.RowKit

theorem Only.cellF {S : Nat → Prop} {w w' : World} (k : Only S w w') {p : Addr} {v : Value} (h : w.cell? p = some v) (hS : ¬ S p.block) : w'.cell? p = some v := (World.cell?_of_block (k.block p.block (cell_lt h) hS)).trans h
theorem flat_take {α β : Type} (f : α → List β) (l : List α) (k : Nat) (x : α) (h : l[k]? = some x) : (l.take (k + 1)).flatMap f = (l.take k).flatMap f ++ f x := by
  rw [List.take_add_one, h]
  simp
theorem toks_length (la lb : List Nat) (ha : Low la) (hb : Low lb) : ∀ ts : List Tk, (∀ t ∈ ts, mayB t = true) → (ts.flatMap (tokB la lb)).length ≤ 60 * ts.length
  | [], _ => by simp
  | t :: r, h => by
    have h1 := tokB_length la lb t ha hb (h t List.mem_cons_self)
    have h2 := toks_length la lb ha hb r fun x hx => h x (List.mem_cons_of_mem _ hx)
    rw [List.flatMap_cons, List.length_append, List.length_cons]
    omega
/-- All tokens have codes. -/
def FitsAll (la lb : List Nat) (ts : List Tk) : Prop := Has la 256 ∧ ∀ t ∈ ts, FitsT la lb t

set_option maxRecDepth 20000 in
set_option maxHeartbeats 4000000 in
theorem cwrite (b : Nat) (F : Nat → Prop) (bl : List UInt8) (lo hi T1 T2 : Nat) (la lb : List Nat) (A : Option Addr) (n c B : Nat) (ts : List Tk) (w : World) (h : CW w b F bl lo hi T1 T2 la lb) (hs : See w B A (tks ts)) (hB : ts ≠ [] → ∀ j, Lies A j → ¬ F j) (hn : ts.length = n) (hb : n ≤ 30000) (hbl : bl.length ≤ 90000000) (hm : allB ts = true) (hf : FitsAll la lb ts) :
    Calls Tryz.prog 30 #[.agg #[.pointer (some ⟨T1, 0, none⟩), .pointer (some ⟨T2, 0, none⟩)], .pointer (some ⟨b, 0, none⟩), .slice A n c] w (PutW w b F (bl ++ encB la lb ts)) := by
  have hmay : ∀ t ∈ ts, mayB t = true := by
    intro t ht
    have := List.all_eq_true.1 hm t ht
    exact this
  obtain ⟨wa, hwa⟩ : ∃ wa, w.alloc (.cells #[.pointer (some ⟨T1, 0, none⟩), .pointer (some ⟨T2, 0, none⟩)] 65) = wa := ⟨_, rfl⟩
  have hoa : Only (fun _ => False) w wa := by rw [← hwa]; exact (Only.refl _ w).alloc _
  obtain ⟨K, hK⟩ : ∃ K, w.heap.size = K := ⟨_, rfl⟩
  have hIa : Is wa K 65 [.pointer (some ⟨T1, 0, none⟩), .pointer (some ⟨T2, 0, none⟩)] := by rw [← hwa, ← hK]; exact Is.new w _ _
  have hKa := hIa.lt
  have h0 : CW wa b (fun j => F j ∧ j < w.heap.size) bl lo hi T1 T2 la lb := ⟨h.cod.new hoa, h.wf.tight.new hoa, fun j a c hj => h.far j a c hj.1⟩
  have hfin : ∀ wz bl', WfP wa b (fun j => F j ∧ j < w.heap.size) bl' wz → WfP w b F bl' wz := fun wz bl' hz => ((hz.mono fun _ q => q.1).late hoa)
  have HFin := Lib.hid hfin
  have hF0 : ∀ j, (F j ∧ j < w.heap.size) → ¬ (j = K) := fun j hj e => by omega
  have hA0 : ts ≠ [] → ∀ j, Lies A j → ¬ (F j ∧ j < w.heap.size) := fun h0 j hj q => hB h0 j hj q.1
  obtain ⟨G, hG⟩ : ∃ G : Nat → Prop, (fun j => F j ∧ j < w.heap.size) = G := ⟨_, rfl⟩
  rw [hG] at h0 HFin
  have hF : ∀ j, G j → ¬ (j = K) := by rw [← hG]; exact hF0
  have hA : ts ≠ [] → ∀ j, Lies A j → ¬ G j := by rw [← hG]; exact hA0
  have HC : Hid (∀ wx bl', WfP wa b G bl' wx → wx.cell? ⟨K, 0, none⟩ = some (.pointer (some ⟨T1, 0, none⟩)) ∧ wx.cell? ⟨K, 1, none⟩ = some (.pointer (some ⟨T2, 0, none⟩))) := Lib.hid fun wx bl' hx => by
    have i1 := hIa.only hx.only fun e => hF K e rfl
    exact ⟨i1.cell 0 rfl, i1.cell 1 rfl⟩
  have HS : Hid (∀ wx bl' k t, WfP wa b G bl' wx → ts[k]? = some t → ∃ bb off, A = some ⟨bb, off, none⟩ ∧ wx.cell? ⟨bb, off + k * 3, none⟩ = some (.int .u8 t.b.toNat) ∧ wx.cell? ⟨bb, off + k * 3 + 1, none⟩ = some (.int .i64 t.n) ∧ wx.cell? ⟨bb, off + k * 3 + 2, none⟩ = some (.int .i64 t.k)) := Lib.hid fun wx bl' k t hx ht => by
    obtain ⟨bb, off, e1, _, c0, c1, c2⟩ := (hs.new hoa).token k t ht
    have hg : ¬ G bb := hA (by rintro rfl; simp at ht) bb ⟨_, e1, rfl⟩
    exact ⟨bb, off, e1, hx.only.cellF c0 hg, hx.only.cellF c1 hg, hx.only.cellF c2 hg⟩
  have hcwx : ∀ wx wy bl', WfP wa b G bl' wx → Only (fun _ => False) wx wy → WfP wa b G bl' wy ∧ CW wy b (fun j => G j ∨ wa.heap.size ≤ j) bl' lo hi T1 T2 la lb := fun wx wy bl' hx ho => ⟨hx.new ho, (h0.wrote hx).new ho⟩
  have HM : Hid (∀ wx wy bl' t, WfP wa b G bl' wx → Only (fun _ => False) wx wy → bl'.length ≤ 100000000 → t ∈ ts → ¬ t.n = 0 → Calls Tryz.prog 49 #[.agg #[.pointer (some ⟨T1, 0, none⟩), .pointer (some ⟨T2, 0, none⟩)], .pointer (some ⟨b, 0, none⟩), tkV t] wy (fun e w' => e = .returned (.tuple #[]) ∧ WfP wa b G (bl' ++ tokB la lb t) w')) := Lib.hid fun wx wy bl' t hx ho hl ht htn => by
    obtain ⟨q1, q2⟩ := hcwx wx wy bl' hx ho
    refine (wmatch b _ bl' lo hi T1 T2 la lb t wy q2 hl (hmay t ht) htn (hf.2 t ht)).mono ?_
    rintro e w' ⟨rfl, hw'⟩
    exact ⟨rfl, q1.step hw'⟩
  have HW : Hid (∀ wx wy bl' s, WfP wa b G bl' wx → Only (fun _ => False) wx wy → bl'.length ≤ 100000000 → Has la s → Calls Tryz.prog 48 #[.pointer (some ⟨T1, 0, none⟩), .pointer (some ⟨b, 0, none⟩), .int .i64 s] wy (fun e w' => e = .returned (.int .i64 0) ∧ WfP wa b G (bl' ++ code la s) w')) := Lib.hid fun wx wy bl' s hx ho hl hs => by
    obtain ⟨q1, q2⟩ := hcwx wx wy bl' hx ho
    refine (twrite T1 b s lo _ la bl' wy q2.cod.t1 q2.wf hs q2.cod.l1 (by omega)).mono ?_
    rintro e w' ⟨rfl, hw'⟩
    exact ⟨rfl, q1.step hw'⟩
  have HLen : Hid (∀ k, (bl ++ (ts.take k).flatMap (tokB la lb)).length ≤ 96000000) := Lib.hid fun k => by
    have := toks_length la lb h.cod.l1 h.cod.l2 (ts.take k) fun x hx => hmay x (List.mem_of_mem_take hx)
    rw [List.length_append]
    have h2 : (ts.take k).length ≤ 30000 := by rw [List.length_take]; omega
    omega
  have HST : Hid (WfP wa b G (bl ++ (ts.take 0).flatMap (tokB la lb)) wa) := Lib.hid (by simpa using WfP.start h0.wf)
  have HN := Lib.hid hn
  have HFT := Lib.hid hf
  have HKW : Hid (K + 0 < wa.heap.size) := Lib.hid hKa
  clear h h0 hfin hG hF hF0 hA hA0 hIa hoa hf hs hcwx hmay hm hn hKa
  go_enter Tryz.func30, Tryz.ntmps30
  go_wp2_with fail
  go_loopg [10] n (fun gk i wx => ∃ k : Nat, i = .int .i64 k ∧ k + gk ≤ n ∧ n ≤ k + gk ∧ Hid (WfP wa b G (bl ++ (ts.take k).flatMap (tokB la lb)) wx))
  case atStart => exact ⟨0, rfl, by omega, by omega, HST⟩
  case round =>
    clear HST
    obtain ⟨k, rfl, hk, hk2, HI⟩ := hrel
    by_cases hlt : k < n
    · obtain ⟨t, ht⟩ : ∃ t, ts[k]? = some t := ⟨ts[k]'(by rw [HN.out]; exact hlt), by simp [HN.out, hlt]⟩
      obtain ⟨bb, off, rfl, c0, c1, c2⟩ := HS.out wr _ k t HI.out ht
      obtain ⟨p0, p1⟩ := HC.out wr _ HI.out
      have hstep := flat_take (tokB la lb) ts k t ht
      have hmem := List.mem_of_getElem? ht
      have hfit := HFT.out.2 t hmem
      have HM1 := Lib.hid (fun wy (hoy : Only (fun _ => False) wr wy) => HM.out wr wy _ t HI.out hoy (Nat.le_trans (HLen.out k) (by decide)) hmem)
      obtain ⟨tb, tn, tkk⟩ := t
      simp only at c0 c1 c2
      unfold tkV at HM1
      obtain ⟨y, hy⟩ : ∃ y, tb.toNat = y := ⟨_, rfl⟩
      rw [hy] at c0 HM1
      obtain ⟨we, hwe⟩ : ∃ we, wr.alloc (.cells #[.int .u8 y, .int .i64 tn, .int .i64 tkk] 81) = we := ⟨_, rfl⟩
      have hoe : Only (fun _ => False) wr we := by rw [← hwe]; exact (Only.refl _ wr).alloc _
      obtain ⟨g, hg⟩ : ∃ g, wr.heap.size = g := ⟨_, rfl⟩
      have hIe : Is we g 81 [.int .u8 y, .int .i64 tn, .int .i64 tkk] := by rw [← hwe, ← hg]; exact Is.new wr _ _
      have d0 := hIe.cell 0 rfl
      have d1 := hIe.cell 1 rfl
      have d2 := hIe.cell 2 rfl
      obtain ⟨p0e, p1e⟩ := HC.out we _ (HI.out.new hoe)
      clear p0 p1
      by_cases hn0 : tn = 0
      · subst hn0
        have hy256 : y < 256 := by rw [← hy]; exact tb.toNat_lt
        have hh : Has la y := by rw [FitsT, if_pos rfl] at hfit; rw [← hy]; exact hfit
        have hB2 : tokB la lb ⟨tb, 0, tkk⟩ = code la y := by rw [tokB, if_pos rfl, hy]
        have HW1 := Lib.hid (HW.out wr we _ y HI.out hoe (Nat.le_trans (HLen.out k) (by decide)) hh)
        rw [hB2] at hstep
        have HSt := Lib.hid hstep
        clear hstep hfit hmem HM1 hIe hoe hh hB2 hy ht
        go_wp2_with fail
        refine HW1.out.mono ?_
        rintro e w2 ⟨rfl, q2⟩
        have H2 : Hid (WfP wa b G (bl ++ (ts.take (k + 1)).flatMap (tokB la lb)) w2) := Lib.hid (by rw [HSt.out, ← List.append_assoc]; exact q2)
        clear q2 HW1 HSt
        go_wp2_with fail
        go_roundg (gk - 1)
        case measure => omega
        case rel => exact ⟨k + 1, by go_num, by omega, by omega, H2⟩
      · have HW1 := Lib.hid (HM1.out we hoe hn0)
        have HSt := Lib.hid hstep
        clear hstep hfit hmem HM1 hIe hoe hy ht
        go_wp2_with fail
        refine HW1.out.mono ?_
        rintro e w2 ⟨rfl, q2⟩
        have H2 : Hid (WfP wa b G (bl ++ (ts.take (k + 1)).flatMap (tokB la lb)) w2) := Lib.hid (by rw [HSt.out, ← List.append_assoc]; exact q2)
        clear q2 HW1 HSt
        go_wp2_with fail
        go_roundg (gk - 1)
        case measure => omega
        case rel => exact ⟨k + 1, by go_num, by omega, by omega, H2⟩
    · obtain rfl : k = n := by omega
      obtain ⟨p0, p1⟩ := HC.out wr _ HI.out
      have HW1 := Lib.hid (HW.out wr wr _ 256 HI.out (Only.refl _ _) (Nat.le_trans (HLen.out k) (by decide)) HFT.out.1)
      have HT : Hid (ts.take k = ts) := Lib.hid (List.take_of_length_le (by rw [HN.out]; exact Nat.le_refl _))
      clear HI HM HS HC HLen HFT
      go_wp2_with fail
      refine HW1.out.mono ?_
      rintro e w2 ⟨rfl, q2⟩
      have H2 : Hid (WfP w b F (bl ++ encB la lb ts) w2) := Lib.hid (by
        have := HFin.out _ _ q2
        rw [HT.out, List.append_assoc] at this
        exact this)
      clear q2 HW1 HFin HT
      go_wp2
      go_end0
      exact ⟨rfl, H2.out⟩
end Go.Proofs.YtjlkjebmilfgoaaGreat
