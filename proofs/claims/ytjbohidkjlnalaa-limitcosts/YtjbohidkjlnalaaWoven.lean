/- Layer 6: leaves and pairs woven into one row, in the program. -/
import Derived.Test.YtjbohidkjlnalaaFitted
import Derived.Deep.DeepCutAuto
namespace Go.Proofs.Ytjbohidkjlnalaa
open Go.RowKit

/-- A row of the call's own that has room: c places of sz cells, the first n of them vs. -/
def Buf (e : TypeId) (sz : Nat) (w : World) (g n c : Nat) (vs : List Value) : Prop := vs.length = n * sz ∧ n ≤ c ∧ ∃ cur, w.heap[g]? = some (.cells cur e (0, 0)) ∧ cur.size = c * sz ∧ cur.toList.take (n * sz) = vs
section
variable {S : Nat → Prop} {e : TypeId} {sz : Nat} {w w' : World} {g n c : Nat} {vs : List Value}
theorem Buf.lt (h : Buf e sz w g n c vs) : g < w.heap.size := by obtain ⟨_, _, cur, h1, _⟩ := h; exact block_lt h1
theorem Buf.only (h : Buf e sz w g n c vs) (k : Only S w w') (hg : ¬ S g) : Buf e sz w' g n c vs := by
  obtain ⟨h1, h2, cur, h3, h4⟩ := h
  exact ⟨h1, h2, cur, (k.block g (block_lt h3) hg).trans h3, h4⟩
theorem Buf.alloc (h : Buf e sz w g n c vs) (o : Obj) : Buf e sz (w.alloc o) g n c vs := h.only ((Only.refl (fun _ => False) w).alloc o) fun f => f
theorem Buf.cell (h : Buf e sz w g n c vs) {i : Nat} {v : Value} (hi : vs[i]? = some v) : w.cell? ⟨g, i, none⟩ = some v := by
  obtain ⟨h1, h2, cur, h3, h4, h5⟩ := h
  have h8 := congrArg (·[i]?) h5
  simp only [hi] at h8
  have hl : i < n * sz := by
    rw [← h1]
    rcases Nat.lt_or_ge i vs.length with hh | hh
    · exact hh
    · rw [List.getElem?_eq_none hh] at hi; cases hi
  simp only [List.getElem?_take, if_pos hl] at h8
  simpa [World.cell?, h3] using h8
theorem Buf.see (h : Buf e sz w g n c vs) : See w w.heap.size (some ⟨g, 0, none⟩) vs := fun i v hv => ⟨g, 0, rfl, h.lt, by rw [Nat.zero_add]; exact h.cell hv⟩
theorem Buf.made {z : Value} (c : Nat) : Buf e sz (w.alloc (.cells (madeCells z.cells (c * sz)) e)) w.heap.size 0 c [] :=
  ⟨by simp, Nat.zero_le _, _, heap_alloc_new w _, size_madeCells _ _, by simp⟩
end
/-- append where there is room. -/
theorem wpList_append_buf {P : Program} {sz : Nat} {w : World} {ops : Array Oper} {rest : List Oper} {o : Oper} {a : Act} {Q : Exit → Act → World → Prop} (hgd : o.guard = none) (s x : Operand) (t tx e : TypeId)
    (ho : o.op = .call { callee := .builtin .append, args := #[s, x], argTypes := #[t, tx] }) (ht : P.underlying t = some (.slice e))
    (hi : (P.info? e).map (·.size) = some sz) (g n c : Nat) (l r : List Value) (y : Value) (hsv : a.eval s = .slice (some ⟨g, 0, none⟩) n c) (hxv : a.eval x = y)
    (h : Buf e sz w g n c l) (hs : Src P sz tx y 1 r w) (hc : n < c) (hk : ∀ w', Buf e sz w' g (n + 1) c (l ++ r) → Only (fun j => j = g) w w' → wpList P ops Q rest (a.put o.dst (.slice (some ⟨g, 0, none⟩) (n + 1) c)) w') :
    wpList P ops Q (o :: rest) a w := by
  refine wpList_plain hgd fun K hK => ?_
  obtain ⟨i, hi, hsz⟩ : ∃ i, P.info? e = some i ∧ i.size = sz := by
    cases hh : P.info? e with
    | none => rw [hh] at hi; cases hi
    | some i => rw [hh] at hi; exact ⟨i, rfl, by simpa using hi⟩
  obtain ⟨h1, h2, cur, h3, h4, h5⟩ := h
  have hrl : r.length = sz := by have := hs.newsLen; omega
  have e1 : (n + 1) * sz = n * sz + sz := by rw [Nat.add_mul, Nat.one_mul]
  have e2 : (n + 1) * sz ≤ c * sz := Nat.mul_le_mul_right _ hc
  have hrun := run_append_room_src (P := P) w t tx o.type e i ht hi g 0 n c y 1 r (by rw [hsz]; exact hs) hc
    (by intro j hj; simp only [hsz, World.cell?, h3]; simp; omega)
    (by intro j hj; simp [World.frozen?, h3])
  rw [hsz, Nat.zero_add] at hrun
  obtain ⟨cur', k1, k2, k3⟩ := setCells_heap g e (0, 0) r (n * sz) w cur h3 (by omega)
  unfold Oper.wp execOp
  simp only [ho, resolve, invoke, builtin, Sem.run_bind, Sem.run_pure, Result.andThen_ok, List.map_toArray, List.map_cons, List.map_nil, hsv, hxv, hrun]
  refine hK _ _ (hk _ ⟨by rw [List.length_append, h1, hrl, e1], hc, cur', k1, by rw [k2, h4], ?_⟩ (setCells_only g r _ w))
  rw [hrl] at k3
  rw [e1, k3, h5]

/-- Items as cells. -/
def its (R : List (Nat × Bool)) : List Value := R.flatMap fun x => [.int .i64 (x.1 : Nat), .bool x.2]
theorem its_length (R : List (Nat × Bool)) : (its R).length = R.length * 2 := by
  induction R with
  | nil => rfl
  | cons x r ih => simp [its] at ih ⊢; omega
theorem its_snoc (R : List (Nat × Bool)) (x : Nat × Bool) : its (R ++ [x]) = its R ++ [.int .i64 (x.1 : Nat), .bool x.2] := by simp [its]
theorem its_at : ∀ (R : List (Nat × Bool)) (i : Nat) (x : Nat × Bool), R[i]? = some x → (its R)[2 * i]? = some (.int .i64 (x.1 : Nat)) ∧ (its R)[2 * i + 1]? = some (.bool x.2)
  | [], _, _, h => by simp at h
  | y :: r, 0, x, h => by
    obtain rfl : y = x := by simpa using h
    simp [its]
  | y :: r, i + 1, x, h => by
    have := its_at r i x (by simpa using h)
    rw [show 2 * (i + 1) = 2 * i + 2 from by omega]
    simpa [its] using this
theorem Src.oneItem (w : World) (x : Nat) (b : Bool) (c : Nat) (t : TypeId) : Src Try.prog 2 47 (.slice (some ⟨w.heap.size, 0, none⟩) 1 c) 1 [.int .i64 (x : Nat), .bool b] (w.alloc (.cells #[.int .i64 (x : Nat), .bool b] t)) := by
  refine Src.ofSlice _ Try.underlying47 _ 1 c _ rfl (fun j u hu => ?_) (by simp [Value.oneCell'])
  have h := Is.new w t [.int .i64 (x : Nat), .bool b]
  rw [Addr.add_lit, Nat.zero_add]
  exact h.cell j hu
theorem info56 : (Try.prog.info? 56).map (fun i => (i.zero, i.size, i.bytes)) = some (some (.agg #[.int .i64 0, .bool false]), 2, 16) := by kernel_rfl
theorem size56 : (Try.prog.info? 56).map (·.size) = some 2 := by kernel_rfl
theorem size47 : (Try.prog.info? 47).map (·.size) = some 1 := by kernel_rfl

theorem mrgF_left (a b : List Nat) (i p : Nat) (hi : i < a.length) (h : p < b.length → ln a i ≤ ln b p) : mrgF (a.drop i) (b.drop p) = (ln a i, true) :: mrgF (a.drop (i + 1)) (b.drop p) := by
  have e1 : a.drop i = ln a i :: a.drop (i + 1) := by rw [List.drop_eq_getElem_cons hi]; simp [ln, hi]
  rw [e1]
  rcases Nat.lt_or_ge p b.length with hp | hp
  · have e2 : b.drop p = ln b p :: b.drop (p + 1) := by rw [List.drop_eq_getElem_cons hp]; simp [ln, hp]
    rw [e2]
    unfold mrgF
    simp only [List.map_cons]
    rw [List.cons_merge_cons, if_pos (by simpa using h hp)]
  · rw [List.drop_eq_nil_of_le hp, mrgF_nil, mrgF_nil]
    simp
theorem mrgF_right (a b : List Nat) (i p : Nat) (hp : p < b.length) (h : i < a.length → ln b p < ln a i) : mrgF (a.drop i) (b.drop p) = (ln b p, false) :: mrgF (a.drop i) (b.drop (p + 1)) := by
  have e2 : b.drop p = ln b p :: b.drop (p + 1) := by rw [List.drop_eq_getElem_cons hp]; simp [ln, hp]
  rw [e2]
  rcases Nat.lt_or_ge i a.length with hi | hi
  · have e1 : a.drop i = ln a i :: a.drop (i + 1) := by rw [List.drop_eq_getElem_cons hi]; simp [ln, hi]
    rw [e1]
    unfold mrgF
    simp only [List.map_cons]
    rw [List.cons_merge_cons, if_neg (by have := h hi; simp; omega)]
  · rw [List.drop_eq_nil_of_le hi]
    unfold mrgF
    simp

/-- Where weaving stands: i leaves and p pairs are laid. -/
def WeaveAt (w : World) (a b : List Nat) (g i p c : Nat) (wx : World) : Prop := ∃ R, R.length = i + p ∧ R ++ mrgF (a.drop i) (b.drop p) = mrgF a b ∧ Buf 56 2 wx g (i + p) c (its R) ∧ Only (fun _ => False) w wx
theorem WeaveAt.parts {w wx : World} {a b : List Nat} {g i p i' p' c x : Nat} {f : Bool} (hm : mrgF (a.drop i) (b.drop p) = (x, f) :: mrgF (a.drop i') (b.drop p')) (hi : i' + p' = i + p + 1) (hg : w.heap.size ≤ g) (h : WeaveAt w a b g i p c wx) :
    ∃ l, Buf 56 2 (wx.alloc (.cells #[.int .i64 (x : Nat), .bool f] 56)) g (i + p) c l ∧ ∀ wz, Buf 56 2 wz g (i + p + 1) c (l ++ [.int .i64 (x : Nat), .bool f]) → Only (fun j => j = g) (wx.alloc (.cells #[.int .i64 (x : Nat), .bool f] 56)) wz → WeaveAt w a b g i' p' c wz := by
  obtain ⟨R, h1, h2, h3, h4⟩ := h
  refine ⟨its R, h3.alloc _, fun wz hb ho => ⟨R ++ [(x, f)], by rw [List.length_append, h1, hi]; rfl, ?_, ?_, (h4.alloc _).andThen ho fun j hj => .inr (hj ▸ hg)⟩⟩
  · rw [List.append_assoc, ← h2, hm]
    rfl
  · rw [hi, its_snoc]
    exact hb
theorem WeaveAt.new {w wx : World} {a b : List Nat} {g i p c : Nat} (h : WeaveAt w a b g i p c wx) : Only (fun _ => False) w wx := by obtain ⟨_, _, _, _, h4⟩ := h; exact h4

theorem See.tail {w : World} {B b0 off p : Nat} {l : List Nat} (h : See w B (some ⟨b0, off, none⟩) (ints (l.drop p))) (k : Nat) : See w B (some ⟨b0, off + k, none⟩) (ints (l.drop (p + k))) := by
  intro i v hv
  have e : (ints (l.drop p))[i + k]? = some v := by
    rw [← hv]
    simp only [ints, List.getElem?_map, List.getElem?_drop]
    rw [show p + (i + k) = p + k + i from by omega]
  obtain ⟨b1, o1, e1, e2, e3⟩ := h (i + k) v e
  simp only [Option.some.injEq, Addr.mk.injEq, and_true] at e1
  obtain ⟨rfl, rfl⟩ := e1
  exact ⟨_, _, rfl, e2, by rw [show off + k + i = off + (i + k) from by omega]; exact e3⟩
theorem See.empty {w : World} {B p : Nat} {A : Option Addr} {l : List Nat} (h : l.length ≤ p) : See w B A (ints (l.drop p)) := by
  rw [List.drop_eq_nil_of_le h]
  intro i v hv
  simp [ints] at hv
def WovenPost (w : World) (R : List (Nat × Bool)) (n : Nat) (e : Ending) (w' : World) : Prop := ∃ g, w.heap.size ≤ g ∧ e = .returned (.slice (some ⟨g, 0, none⟩) n n) ∧ See w' w'.heap.size (some ⟨g, 0, none⟩) (its R) ∧ Only (fun _ => False) w w'

set_option maxHeartbeats 4000000 in
theorem woven (A Aj : Option Addr) (n k m kj B Bj : Nat) (a b : List Nat) (w : World) (h : See w B A (ints a)) (hj : See w Bj Aj (ints b)) (hn : a.length = n) (hm : b.length = m) (hk : m ≤ kj) (hkj : kj ≤ 1000) (hn288 : n ≤ 288) :
    Calls Try.prog 35 #[.slice A n k, .slice Aj m kj] w (WovenPost w (mrgF a b) (n + m)) := by
  obtain ⟨t, ht⟩ : ∃ t, n + m = t := ⟨_, rfl⟩
  have et : (n : Int) + (m : Int) = (t : Int) := by omega
  have hmk := run_make_room Try.underlying47 info56 t (by omega) (by omega) w
  have HST : Hid (WeaveAt w a b w.heap.size 0 0 t (w.alloc (.cells (madeCells #[.int .i64 0, .bool false] (t * 2)) 56))) := Lib.hid ⟨[], rfl, rfl, Buf.made (z := .agg #[.int .i64 0, .bool false]) t, (Only.refl _ w).alloc _⟩
  have HS := Lib.hid h
  have HJ := Lib.hid hj
  have HN := Lib.hid hn
  have HM := Lib.hid hm
  clear h hj hn hm
  rw [ht]
  obtain ⟨g, hg⟩ : ∃ g, w.heap.size = g := ⟨_, rfl⟩
  go_enter Try.func35, Try.ntmps35
  go_wp2_with fail
  rw [hg] at HST
  try rw [hg]
  have HG : Hid (w.heap.size ≤ g) := Lib.hid (by omega)
  clear hmk hg
  go_loopg [1, 5, 18] n (fun gk v1 v5 i wx => ∃ (j p r s q : Nat) (Ap : Option Addr), i = .int .i64 j ∧ v1 = .slice Ap r s ∧ v5 = .slice (some ⟨g, 0, none⟩) q t ∧ j + gk ≤ n ∧ n ≤ j + gk ∧ p + r = m ∧ p + s = kj ∧ j + p = q ∧ Hid (See w Bj Ap (ints (b.drop p))) ∧ Hid (WeaveAt w a b g j p t wx))
  case atStart => exact ⟨0, 0, m, kj, 0, Aj, rfl, rfl, rfl, by omega, by omega, by omega, by omega, by omega, HJ, HST⟩
  case round =>
    clear HST HJ
    obtain ⟨j, p, r, s, q, Ap, rfl, rfl, rfl, hg1, hg2, hpm, hps, hq, HP, HI⟩ := hrel
    obtain ⟨gO, hgO⟩ : ∃ gO, gk = gO := ⟨_, rfl⟩
    by_cases hlt : j < n
    · obtain ⟨b0, off, rfl, _, hc⟩ := (HS.out.new HI.out.new) j _ (ints_at a j (by rw [HN.out]; exact hlt))
      obtain ⟨x, hx⟩ : ∃ x, ln a j = x := ⟨_, rfl⟩
      rw [hx] at hc
      have HX := Lib.hid hx
      clear hx
      go_wp2_with fail
      go_loopg [1, 5] r (fun gk v1 v5 wx => ∃ (p r s q : Nat) (Ap : Option Addr), v1 = .slice Ap r s ∧ v5 = .slice (some ⟨g, 0, none⟩) q t ∧ r ≤ gk ∧ p + r = m ∧ p + s = kj ∧ j + p = q ∧ Hid (See w Bj Ap (ints (b.drop p))) ∧ Hid (WeaveAt w a b g j p t wx))
      case atStart => exact ⟨p, r, s, q, Ap, rfl, rfl, by omega, by omega, by omega, by omega, HP, HI⟩
      case round =>
        clear HP HI hpm hps hq
        clear p r s q
        obtain ⟨p, r, s, q, Ap, rfl, rfl, hgp, hpm, hps, hq, HP, HI⟩ := hrel
        by_cases hpl : 0 < r
        · have hdl : 0 < (b.drop p).length := by rw [List.length_drop, HM.out]; omega
          obtain ⟨b1, off1, rfl, hb1, hcj⟩ := (HP.out.new HI.out.new) 0 _ (ints_at (b.drop p) 0 hdl)
          have e3 : ln (b.drop p) 0 = ln b p := by simp [ln]
          rw [e3, Nat.add_zero] at hcj
          obtain ⟨y, hy⟩ : ∃ y, ln b p = y := ⟨_, rfl⟩
          rw [hy] at hcj
          have HY := Lib.hid hy
          have h0m : (0 : Int) < (r : Int) := by omega
          obtain ⟨r', hr'⟩ : ∃ r', r' + 1 = r := ⟨r - 1, by omega⟩
          obtain ⟨s', hs'⟩ : ∃ s', s' + 1 = s := ⟨s - 1, by omega⟩
          have er' : (r : Int) - 1 = (r' : Int) := by omega
          have es' : (s : Int) - 1 = (s' : Int) := by omega
          clear e3 hy hdl
          by_cases hyx : y < x
          · have HZ : Hid (∃ l, Buf 56 2 (wr.alloc (.cells #[.int .i64 (y : Nat), .bool false] 56)) g q t l ∧ ∀ wz, Buf 56 2 wz g (q + 1) t (l ++ [.int .i64 (y : Nat), .bool false]) → Only (fun j => j = g) (wr.alloc (.cells #[.int .i64 (y : Nat), .bool false] 56)) wz → WeaveAt w a b g j (p + 1) t wz) := Lib.hid (by
              have hst := mrgF_right a b j p (by rw [HM.out]; omega) (fun _ => by rw [HY.out, HX.out]; exact hyx)
              rw [HY.out] at hst
              have := WeaveAt.parts hst (by omega) HG.out HI.out
              rw [hq] at this
              exact this)
            obtain ⟨l, hl1, hl2⟩ := HZ.out
            have HL1 := Lib.hid hl1
            have HL2 := Lib.hid hl2
            clear hl1 hl2 HZ HI
            go_upto_region 6 with fail
            go_wp2_with (at_builtin
                         refine wpList_append_buf rfl (.tmp 32) (.tmp 37) 47 47 56 rfl Try.underlying47 size56 g q t l [.int .i64 (y : Nat), .bool false] (.slice (some ⟨wr.heap.size, 0, none⟩) 1 1) rfl rfl HL1.out (Src.oneItem wr y false 1 56) (by omega) ?_
                         intro w9 hbuf9 honly9
                         have H9 := Lib.hid (HL2.out _ hbuf9 honly9)
                         clear hbuf9 honly9)
            · obtain rfl : s' = 0 := by omega
              go_roundg r'
              case measure => omega
              case rel => exact ⟨p + 1, r - 1, 0, q + 1, _, rfl, rfl, by omega, by omega, by omega, by omega, Lib.hid (See.empty (by rw [HM.out]; omega)), H9⟩
            · go_roundg r'
              case measure => omega
              case rel => exact ⟨p + 1, r - 1, s - 1, q + 1, _, rfl, rfl, by omega, by omega, by omega, by omega, Lib.hid (HP.out.tail 1), H9⟩
          · have hyx2 : decide ((y : Int) < (x : Int)) = false := by simp; omega
            have HZ : Hid (∃ l, Buf 56 2 (wr.alloc (.cells #[.int .i64 (x : Nat), .bool true] 56)) g q t l ∧ ∀ wz, Buf 56 2 wz g (q + 1) t (l ++ [.int .i64 (x : Nat), .bool true]) → Only (fun j => j = g) (wr.alloc (.cells #[.int .i64 (x : Nat), .bool true] 56)) wz → WeaveAt w a b g (j + 1) p t wz) := Lib.hid (by
              have hst := mrgF_left a b j p (by rw [HN.out]; exact hlt) (fun _ => by rw [HY.out, HX.out]; omega)
              rw [HX.out] at hst
              have := WeaveAt.parts hst (by omega) HG.out HI.out
              rw [hq] at this
              exact this)
            obtain ⟨l, hl1, hl2⟩ := HZ.out
            have HL1 := Lib.hid hl1
            have HL2 := Lib.hid hl2
            clear hl1 hl2 HZ HI
            go_upto_region 8 with fail
            go_wp2_with (at_builtin
                         refine wpList_append_buf rfl (.tmp 41) (.tmp 44) 47 47 56 rfl Try.underlying47 size56 g q t l [.int .i64 (x : Nat), .bool true] (.slice (some ⟨wr.heap.size, 0, none⟩) 1 1) rfl rfl HL1.out (Src.oneItem wr x true 1 56) (by omega) ?_
                         intro w9 hbuf9 honly9
                         have H9 := Lib.hid (HL2.out _ hbuf9 honly9)
                         clear hbuf9 honly9)
            go_roundg (gO - 1)
            case measure => omega
            case rel => exact ⟨j + 1, p, r, s, q + 1, _, by go_num, rfl, rfl, by omega, by omega, by omega, by omega, by omega, HP, H9⟩
        · obtain rfl : r = 0 := by omega
          have HZ : Hid (∃ l, Buf 56 2 (wr.alloc (.cells #[.int .i64 (x : Nat), .bool true] 56)) g q t l ∧ ∀ wz, Buf 56 2 wz g (q + 1) t (l ++ [.int .i64 (x : Nat), .bool true]) → Only (fun j => j = g) (wr.alloc (.cells #[.int .i64 (x : Nat), .bool true] 56)) wz → WeaveAt w a b g (j + 1) p t wz) := Lib.hid (by
            have hst := mrgF_left a b j p (by rw [HN.out]; exact hlt) (fun h => by rw [HM.out] at h; omega)
            rw [HX.out] at hst
            have := WeaveAt.parts hst (by omega) HG.out HI.out
            rw [hq] at this
            exact this)
          obtain ⟨l, hl1, hl2⟩ := HZ.out
          have HL1 := Lib.hid hl1
          have HL2 := Lib.hid hl2
          clear hl1 hl2 HZ HI
          go_upto_region 8 with fail
          go_wp2_with (at_builtin
                       refine wpList_append_buf rfl (.tmp 41) (.tmp 44) 47 47 56 rfl Try.underlying47 size56 g q t l [.int .i64 (x : Nat), .bool true] (.slice (some ⟨wr.heap.size, 0, none⟩) 1 1) rfl rfl HL1.out (Src.oneItem wr x true 1 56) (by omega) ?_
                       intro w9 hbuf9 honly9
                       have H9 := Lib.hid (HL2.out _ hbuf9 honly9)
                       clear hbuf9 honly9)
          go_roundg (gO - 1)
          case measure => omega
          case rel => exact ⟨j + 1, p, 0, s, q + 1, _, by go_num, rfl, rfl, by omega, by omega, by omega, by omega, by omega, HP, H9⟩
    · obtain rfl : j = n := by omega
      go_wp2_with fail
      go_loopg [5, 49] r (fun gk v5 i wx => ∃ (p' i' q' : Nat), i = .int .i64 i' ∧ v5 = .slice (some ⟨g, 0, none⟩) q' t ∧ i' + gk ≤ r ∧ r ≤ i' + gk ∧ p + i' = p' ∧ j + p' = q' ∧ Hid (WeaveAt w a b g j p' t wx))
      case atStart => exact ⟨p, 0, q, rfl, rfl, by omega, by omega, by omega, by omega, HI⟩
      case round =>
        clear HI
        obtain ⟨p', i', q', rfl, rfl, hi1, hi2, hp', hq', HI⟩ := hrel
        by_cases hlt2 : i' < r
        · have hdl : i' < (b.drop p).length := by rw [List.length_drop, HM.out]; omega
          obtain ⟨b1, off1, rfl, hb1, hcj⟩ := (HP.out.new HI.out.new) i' _ (ints_at (b.drop p) i' hdl)
          have e3 : ln (b.drop p) i' = ln b p' := by rw [← hp']; simp [ln]
          rw [e3] at hcj
          obtain ⟨y, hy⟩ : ∃ y, ln b p' = y := ⟨_, rfl⟩
          rw [hy] at hcj
          have HZ : Hid (∃ l, Buf 56 2 (wr.alloc (.cells #[.int .i64 (y : Nat), .bool false] 56)) g q' t l ∧ ∀ wz, Buf 56 2 wz g (q' + 1) t (l ++ [.int .i64 (y : Nat), .bool false]) → Only (fun j => j = g) (wr.alloc (.cells #[.int .i64 (y : Nat), .bool false] 56)) wz → WeaveAt w a b g j (p' + 1) t wz) := Lib.hid (by
            have hst := mrgF_right a b j p' (by rw [HM.out]; omega) (fun h => by rw [HN.out] at h; omega)
            rw [hy] at hst
            have := WeaveAt.parts hst (by omega) HG.out HI.out
            rw [hq'] at this
            exact this)
          obtain ⟨l, hl1, hl2⟩ := HZ.out
          have HL1 := Lib.hid hl1
          have HL2 := Lib.hid hl2
          clear hl1 hl2 HZ HI e3 hy hdl
          go_upto_region 13 with fail
          go_wp2_with (at_builtin
                       refine wpList_append_buf rfl (.tmp 53) (.tmp 56) 47 47 56 rfl Try.underlying47 size56 g q' t l [.int .i64 (y : Nat), .bool false] (.slice (some ⟨wr.heap.size, 0, none⟩) 1 1) rfl rfl HL1.out (Src.oneItem wr y false 1 56) (by omega) ?_
                       intro w9 hbuf9 honly9
                       have H9 := Lib.hid (HL2.out _ hbuf9 honly9)
                       clear hbuf9 honly9)
          go_roundg (gk - 1)
          case measure => omega
          case rel => exact ⟨p' + 1, i' + 1, q' + 1, by go_num, rfl, by omega, by omega, by omega, by omega, H9⟩
        · obtain rfl : i' = r := by omega
          obtain ⟨R, h1, h2, h3, h4⟩ := HI.out
          have hR : R = mrgF a b := by
            rw [← h2, List.drop_eq_nil_of_le (by rw [HN.out]; omega), List.drop_eq_nil_of_le (by rw [HM.out]; omega)]
            simp [mrgF]
          obtain rfl : q' = t := by omega
          have HZ : Hid (WovenPost w (mrgF a b) q' (.returned (.slice (some ⟨g, 0, none⟩) q' q')) wr) := Lib.hid ⟨g, HG.out, rfl, by rw [← hR]; exact h3.see, h4⟩
          clear h1 h2 h3 h4 hR HI
          go_wp2
          go_ret
          exact HZ.out
end Go.Proofs.Ytjbohidkjlnalaa
