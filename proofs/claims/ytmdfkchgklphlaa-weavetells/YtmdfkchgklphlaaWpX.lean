/- Layer 16, the program: Union and Common range over Weave. -/
import Derived.Test.YtmdfkchgklphlaaWpW
import Derived.Test.YtmdfkchgklphlaaWvT
namespace Go.Proofs.Ytmdfkchgklphlaa
open Go.RowKit Go.Shelf

attribute [local go_sem] Oper.semAt_some

/-- An operation whose run is known, in a fenced walk. -/
theorem wpListIn_exec {F : Fence} {n : Nat} {P : Program} {w w' : World} {ops : Array Oper} {rest : List Oper} {o : Oper} {a : Act} {Q : Exit → Act → World → Prop} {v : Value} (hgd : o.guard = none) (ha : o.about P w a.eval = none) (hd : ∀ c, o.op ≠ .defer c) (hr : (execOp a.eval o).run P w = .ok (.value v) w') (h : wpListIn F n P ops Q rest (a.put o.dst v) w') : wpListIn F n P ops Q (o :: rest) a w := by
  refine wpListIn_plain hgd fun K' hK' => ?_
  unfold Oper.wpIn
  refine ⟨?_, ?_⟩
  · simp [ha]
  · rw [Oper.semAt_plain F _ _ hd, hr]
    exact hK' _ _ h
/-- What stands between two rounds: a box that holds a row of texts, laid since the loop began. -/
def Told (w : World) (b top : Nat) (V : List (List UInt8)) (W : World) : Prop := Only (fun _ => False) w W ∧ top + 2 ≤ W.heap.size ∧ ∃ A1 c1, Is W b 26 [.slice A1 V.length c1] ∧ Rs 9 1 W A1 V.length c1 (strs V) ∧ ∀ j, Lies A1 j → top + 2 ≤ j
theorem Told.turn {w : World} {b top : Nat} {V : List (List UInt8)} {W W2 : World} (h : Told w b top V W) (hw : w.heap.size ≤ b) (hb : b < top) (k : Only (fun j => j = top + 1) W W2) : Told w b top V W2 := by
  obtain ⟨h1, h2, A1, c1, h3, h4, h5⟩ := h
  exact ⟨h1.andThen k fun j hj => .inr (by omega), Nat.le_trans h2 k.size, A1, c1, h3.only k (by omega), h4.only k fun j hj e => by have := h5 j hj; omega, h5⟩
/-- One text is appended to the row in the box. -/
theorem Told.add {w : World} {b top : Nat} {V : List (List UInt8)} {W : World} (h : Told w b top V W) (hw : w.heap.size ≤ b) (hbt : b < top) (hn : V.length ≤ 100000) (u : List UInt8) : ∃ A1 c1 A2 c2 w3, W.cell? ⟨b, 0, none⟩ = some (.slice A1 V.length c1) ∧
    (Builtin.append_ #[26, 26] 26 #[.slice A1 V.length c1, .slice (some ⟨W.heap.size, 0, none⟩) 1 1]).run Try.prog (W.alloc (.cells #[.string (tx u)] 9)) = .ok (.slice A2 (V.length + 1) c2) w3 ∧
    (W.alloc (.cells #[.string (tx u)] 9)).cell? ⟨b, 0, none⟩ = some (.slice A1 V.length c1) ∧ w3.cell? ⟨b, 0, none⟩ = some (.slice A1 V.length c1) ∧ w3.frozen? ⟨b, 0, none⟩ = false ∧
    Told w b top (V ++ [u]) (w3.setCell ⟨b, 0, none⟩ (.slice A2 (V.length + 1) c2)) ∧ Only (fun j => j = b ∨ top + 2 ≤ j) W (w3.setCell ⟨b, 0, none⟩ (.slice A2 (V.length + 1) c2)) := by
  obtain ⟨h1, h2, A1, c1, h3, h4, h5⟩ := h
  obtain ⟨A2, c2, w3, hrun, hrow, hon, hA⟩ := run_append_rs (P := Try.prog) (t := 26) (tx := 26) (ty := 26) (e := 9) Try.underlying26 infoStr zeroStr (h4.alloc (.cells #[.string (tx u)] 9)) (Src.oneStr Try.underlying26 W (tx u) 1 9) (by omega) (by omega)
  have hnb : ¬ Lies A1 b := fun hj => by have := h5 b hj; omega
  have h6 := (h3.alloc (.cells #[.string (tx u)] 9)).only hon hnb
  have h7 := h6.set 0 (.slice A2 (V.length + 1) c2)
  have el : (V ++ [u]).length = V.length + 1 := by rw [List.length_append]; rfl
  have h8 : ∀ j, Lies A2 j → top + 2 ≤ j := fun j hj => by
    rcases hA with e | e
    · exact h5 j (e ▸ hj)
    · obtain ⟨ad, e1, e2⟩ := hj
      rw [e] at e1
      obtain rfl := Option.some.inj e1
      rw [← e2]
      exact Nat.le_trans h2 ((Only.refl (fun _ => False) W).alloc _).size
  have hnb2 : ¬ Lies A2 b := fun hj => by have := h8 b hj; omega
  have o1 : Only (fun j => j = b ∨ top + 2 ≤ j) W w3 := ((Only.refl _ W).alloc _).trans (hon.mono fun j hj => .inr (h5 j hj))
  have o2 : Only (fun _ => False) w w3 := (h1.alloc _).andThen hon fun j hj => .inr (by have := h5 j hj; omega)
  refine ⟨A1, c1, A2, c2, w3, h3.cell 0 rfl, hrun, (h3.alloc _).cell 0 rfl, h6.cell 0 rfl, h6.frozen 0, ⟨o2.set (p := ⟨b, 0, none⟩) (.inr hw) _, Nat.le_trans h2 (by have := o1.size; simpa using this), A2, c2, ?_, ?_, h8⟩, o1.set (p := ⟨b, 0, none⟩) (.inl (.inl rfl)) _⟩
  · rw [el]
    exact h7
  · rw [el]
    have e2 : strs (V ++ [u]) = strs V ++ [.string (tx u)] := by simp [strs]
    rw [e2]
    exact hrow.only (((Only.refl (fun j => j = b) w3)).set (p := ⟨b, 0, none⟩) (.inl rfl) _) fun j hj e => hnb2 (e ▸ hj)

theorem told_end {w W : World} {V : List (List UInt8)} {A1 : Option Addr} {c1 n b top : Nat} (hw : w.heap.size ≤ b) (hb : b < top) (h1 : Only (fun _ => False) w W) (h4 : Rs 9 1 W A1 n c1 (strs V)) (h5 : ∀ j, Lies A1 j → top + 2 ≤ j) :
    (∃ A c B, Ending.returned (.slice A1 V.length c1) = Ending.returned (.slice A V.length c) ∧ See (W.putObj top (.deferred none)) B A (strs V)) ∧ Only (fun _ => False) w (W.putObj top (.deferred none)) :=
  ⟨⟨A1, c1, W.heap.size, rfl, h4.see.apart h5 (only_put W top _) fun j h1 _ e => by omega⟩, h1.andThen (only_put W top _) fun j e => .inr (by omega)⟩
set_option maxRecDepth 100000 in
set_option maxHeartbeats 4000000 in
theorem punion (A : Option Addr) (n c B : Nat) (rs : List TRow) (w : World) (h : Rows2 w B A rs) (hn : rs.length = n) (hin : smallW rs) : Calls Try.prog 9 #[.slice A n c] w (SeesP w (unionF (txts rs))) := by
  have HW : Hid (∀ w1, Only (fun _ => False) w w1 → Calls Try.prog 12 #[.slice A n c] w1 fun e w' =>
    (∃ gf lb, e = .returned (.func (.func gf) #[] lb) ∧ (∀ args w, (callFunc gf args).run Try.prog w = .ok (.enter gf args) w) ∧ SeqA Try.prog gf lb (unionF (txts rs)).length (RoundX rs) w1.heap.size w') ∧ Only (fun _ => False) w1 w') := Lib.hid fun w1 k => pweave A n c B rs w1 (h.new k) hn hin
  have hus := union_few hin
  clear h hin
  refine (callsIn_wide (n := 3)).1 (callsIn_of_wp_marks Try.func9 rfl trivial ?_ rfl)
  simp only [Try.ntmps9, List.size_toArray, List.length_cons, List.length_nil, Nat.reduceAdd, Nat.reduceSub, Array.replicate_succ, Array.replicate_zero, List.push_toArray, List.append_toArray, List.nil_append, List.cons_append]
  gi_wp2_with fail
  obtain ⟨w1, hw1⟩ : ∃ w1, w.alloc (.cells #[.slice none 0 0] 26) = w1 := ⟨_, rfl⟩
  have o1 : Only (fun _ => False) w w1 := hw1 ▸ ((Only.refl _ w).alloc _)
  have z1 : w1.heap.size = w.heap.size + 1 := by rw [← hw1, World.size_alloc]
  have i1 : Is w1 w.heap.size 26 [.slice none 0 0] := hw1 ▸ Is.new w _ _
  rw [hw1]
  clear hw1
  refine ⟨trivial, (callsIn_wide.2 (HW.out w1 o1)).mono ?_⟩
  rintro e w2 ⟨⟨gf, lb, rfl, eg, hseq⟩, o2⟩
  have HQ := Lib.hid hseq
  have HE := Lib.hid eg
  have O2 := Lib.hid o2
  have hz : w1.heap.size ≤ w2.heap.size := o2.size
  clear eg hseq o2
  gi_wp2_with fail
  refine wpIn_rangeA (I := fun i W => Told w w.heap.size w2.heap.size ((unionF (txts rs)).take i) W) (Ix := fun _ => False)
    (aft := fun args => ⟨#[.slice A n c, undef, .slice none 0 0, .pointer (some ⟨w.heap.size, 0, none⟩), args.getD 0 undef, .slice A n c, .func (.func gf) #[] lb, args.getD 0 undef, args.getD 1 undef, undef, undef, undef, undef, undef], []⟩)
    HQ.out ⟨?assign, ?body, ?done, ?stop⟩ hz rfl HE.out (fun i W args hx => by obtain ⟨_, _, _, rfl, _⟩ := hx; rfl) (fun i W l r o args hx hl => hx.put hl) (fun i W1 W2 q k => q.turn (Nat.le_refl _) (by omega) k) (fun W1 W2 q k => q) ?start
  case start =>
    intro W k hs
    have k2 := O2.out.trans k
    refine ⟨o1.trans k2, hs, none, 0, ?_, Rs.nil _ 1 _, ?_⟩
    · rw [List.take_zero]
      exact i1.only k2 fun f => f
    · rintro j ⟨ad, e, _⟩
      cases e
  case assign =>
    rintro l k i W args K ⟨A2, c2, B2, rfl, _⟩ hK
    gi_wp2
    exact hK
  case body =>
    rintro l k i W args hiN hI ⟨A2, c2, B2, rfl, hs⟩
    have hV : ((unionF (txts rs)).take i).length = i := by rw [List.length_take]; omega
    have htk := take_next [] (unionF (txts rs)) i hiN
    generalize (unionF (txts rs)).getD i [] = u at htk hs ⊢
    obtain ⟨A3, c3, A4, c4, w3, d0, hrun, d1, d2, f2, ht, ho⟩ := hI.add (Nat.le_refl _) (by omega) (by rw [hV]; omega) u
    rw [hV] at d0 hrun d1 d2
    have HT := Lib.hid ht
    have HO := Lib.hid ho
    have HTK := Lib.hid htk
    generalize (placesF (txts rs) u).length = K2
    rw [hV] at HT HO
    clear ht ho hI hV htk hs
    gi_wp2_with (gi_at_builtin; refine wpListIn_exec rfl (by rfl) (by intro c hc; cases hc) (exec_appendG (.tmp 9) (.tmp 11) rfl rfl rfl hrun) ?_)
    exact ⟨by rw [HTK.out]; exact HT.out, HO.out.mono fun j hj => hj.elim (fun e => .inl (by omega)) .inr⟩
  case done =>
    intro W hK hI
    rw [List.take_length] at hI
    obtain ⟨h1, h2, A1, c1, h3, h4, h5⟩ := hI
    have d0 := h3.cell 0 rfl
    gi_wp2_with fail
    refine ⟨by simp, .inl ⟨_, _, rfl, run_takeDeferred hK, .slice A1 (unionF (txts rs)).length c1, ?_, ?_⟩⟩
    · simp [results, Try.f9, go_sem]
    · exact told_end (Nat.le_refl _) (by omega) h1 h4 h5
  case stop => exact fun W _ f => f.elim
/-- The texts of all rows, of the first i texts. -/
def commonTo (rows : List (List (List UInt8))) (i : Nat) : List (List UInt8) := ((unionF rows).take i).filter fun s => decide ((placesF rows s).length = rows.length)
theorem common_next (rows : List (List (List UInt8))) (i : Nat) (h : i < (unionF rows).length) : commonTo rows (i + 1) = commonTo rows i ++ if (placesF rows ((unionF rows).getD i [])).length = rows.length then [(unionF rows).getD i []] else [] := by
  unfold commonTo
  rw [take_next [] _ i h, List.filter_append]
  congr 1
  rw [List.filter_cons]
  by_cases g : (placesF rows ((unionF rows).getD i [])).length = rows.length
  · rw [if_pos g, if_pos (decide_eq_true g)]
    rfl
  · rw [if_neg g, if_neg (by simpa using g)]
    rfl
theorem common_le (rows : List (List (List UInt8))) (i : Nat) : (commonTo rows i).length ≤ i := by
  have h := List.length_filter_le (fun s => decide ((placesF rows s).length = rows.length)) ((unionF rows).take i)
  rw [List.length_take] at h
  unfold commonTo
  omega
theorem common_all (rows : List (List (List UInt8))) : commonTo rows (unionF rows).length = commonF rows := by
  unfold commonTo commonF
  rw [List.take_length]

set_option maxRecDepth 100000 in
set_option maxHeartbeats 4000000 in
theorem pcommon (A : Option Addr) (n c B : Nat) (rs : List TRow) (w : World) (h : Rows2 w B A rs) (hn : rs.length = n) (hin : smallW rs) : Calls Try.prog 10 #[.slice A n c] w (SeesP w (commonF (txts rs))) := by
  have HW : Hid (∀ w1, Only (fun _ => False) w w1 → Calls Try.prog 12 #[.slice A n c] w1 fun e w' =>
    (∃ gf lb, e = .returned (.func (.func gf) #[] lb) ∧ (∀ args w, (callFunc gf args).run Try.prog w = .ok (.enter gf args) w) ∧ SeqA Try.prog gf lb (unionF (txts rs)).length (RoundX rs) w1.heap.size w') ∧ Only (fun _ => False) w1 w') := Lib.hid fun w1 k => pweave A n c B rs w1 (h.new k) hn hin
  have hus := union_few hin
  have HRL : Hid ((txts rs).length = n) := Lib.hid (by rw [List.length_map]; exact hn)
  have HALL := Lib.hid (common_all (txts rs))
  clear h hin hn
  refine (callsIn_wide (n := 3)).1 (callsIn_of_wp_marks Try.func10 rfl trivial ?_ rfl)
  simp only [Try.ntmps10, List.size_toArray, List.length_cons, List.length_nil, Nat.reduceAdd, Nat.reduceSub, Array.replicate_succ, Array.replicate_zero, List.push_toArray, List.append_toArray, List.nil_append, List.cons_append]
  gi_wp2_with fail
  obtain ⟨w1, hw1⟩ : ∃ w1, (w.alloc (.cells #[.slice A n c] 22)).alloc (.cells #[.slice none 0 0] 26) = w1 := ⟨_, rfl⟩
  have o1 : Only (fun _ => False) w w1 := hw1 ▸ (((Only.refl _ w).alloc _).alloc _)
  have z1 : w1.heap.size = w.heap.size + 2 := by rw [← hw1, World.size_alloc, World.size_alloc]
  have i0 : Is w1 w.heap.size 22 [.slice A n c] := hw1 ▸ ((Is.new w _ _).alloc _)
  have i1 : Is w1 (w.heap.size + 1) 26 [.slice none 0 0] := hw1 ▸ Is.new2 w _ _ _
  rw [hw1]
  clear hw1
  refine ⟨trivial, (callsIn_wide.2 (HW.out w1 o1)).mono ?_⟩
  rintro e w2 ⟨⟨gf, lb, rfl, eg, hseq⟩, o2⟩
  have HQ := Lib.hid hseq
  have HE := Lib.hid eg
  have O2 := Lib.hid o2
  have hz : w1.heap.size ≤ w2.heap.size := o2.size
  clear eg hseq o2
  gi_wp2_with fail
  refine wpIn_rangeA (I := fun i W => Told w (w.heap.size + 1) w2.heap.size (commonTo (txts rs) i) W ∧ Is W w.heap.size 22 [.slice A n c]) (Ix := fun _ => False)
    (aft := fun args => ⟨#[.slice A n c, .pointer (some ⟨w.heap.size, 0, none⟩), .slice none 0 0, .pointer (some ⟨w.heap.size + 1, 0, none⟩), args.getD 0 undef, args.getD 1 undef, .slice A n c, .func (.func gf) #[] lb, args.getD 0 undef, args.getD 1 undef, undef, undef, undef, undef, undef, undef, undef, undef, undef, undef], []⟩)
    HQ.out ⟨?assign, ?body, ?done, ?stop⟩ hz rfl HE.out (fun i W args hx => by obtain ⟨_, _, _, rfl, _⟩ := hx; rfl) (fun i W l r o args hx hl => hx.put hl) (fun i W1 W2 q k => ⟨q.1.turn (by omega) (by omega) k, q.2.only k (by omega)⟩) (fun W1 W2 q k => q) ?start
  case start =>
    intro W k hs
    have k2 := O2.out.trans k
    refine ⟨⟨o1.trans k2, hs, none, 0, i1.only k2 fun f => f, Rs.nil _ 1 _, ?_⟩, i0.only k2 fun f => f⟩
    rintro j ⟨ad, e, _⟩
    cases e
  case assign =>
    rintro l k i W args K ⟨A2, c2, B2, rfl, _⟩ hK
    gi_wp2
    exact hK
  case body =>
    rintro l k i W args hiN hI ⟨A2, c2, B2, rfl, hs⟩
    have hV := common_le (txts rs) i
    obtain ⟨V, hVV⟩ : ∃ V, commonTo (txts rs) i = V := ⟨_, rfl⟩
    have hnx := common_next (txts rs) i hiN
    rw [hVV] at hI hnx hV
    rw [HRL.out] at hnx
    generalize (unionF (txts rs)).getD i [] = u at hnx hs ⊢
    obtain ⟨v, hv⟩ : ∃ v, V.length = v := ⟨_, rfl⟩
    obtain ⟨A3, c3, A4, c4, w3, d0, hrun, d1, d2, f2, ht, ho⟩ := hI.1.add (by omega) (by omega) (by omega) u
    have dl := hI.2.cell 0 rfl
    have il : Is (w3.setCell ⟨w.heap.size + 1, 0, none⟩ (.slice A4 (V.length + 1) c4)) w.heap.size 22 [.slice A n c] := hI.2.only ho (by omega)
    have HIL := Lib.hid il
    rw [hv] at d0 hrun d1 d2
    have HT := Lib.hid ht
    have HO := Lib.hid ho
    have HI := Lib.hid hI
    have HNX := Lib.hid hnx
    rw [hv] at HT HO HIL
    generalize (placesF (txts rs) u).length = K2 at HNX
    clear ht ho hI hV hnx hs il hv hVV
    by_cases hk : K2 = n
    · subst hk
      have q1 : ((K2 : Int) == (K2 : Int)) = true := beq_self_eq_true _
      gi_wp2_with (gi_at_builtin; refine wpListIn_exec rfl (by rfl) (by intro c hc; cases hc) (exec_appendG (.tmp 15) (.tmp 17) rfl rfl rfl hrun) ?_)
      have e : commonTo (txts rs) (i + 1) = V ++ [u] := by rw [HNX.out, if_pos trivial]
      exact ⟨⟨by rw [e]; exact HT.out, HIL.out⟩, HO.out.mono fun j hj => hj.elim (fun e => .inl (by omega)) .inr⟩
    · have q1 : ((K2 : Int) == (n : Int)) = false := by rw [beq_eq_false_iff_ne]; omega
      gi_wp2_with fail
      have e : commonTo (txts rs) (i + 1) = V := by rw [HNX.out, if_neg hk, List.append_nil]
      exact ⟨by rw [e]; exact HI.out, Only.refl _ W⟩
  case done =>
    intro W hK hI
    rw [HALL.out] at hI
    obtain ⟨⟨h1, h2, A1, c1, h3, h4, h5⟩, _⟩ := hI
    have d0 := h3.cell 0 rfl
    gi_wp2_with fail
    refine ⟨by simp, .inl ⟨_, _, rfl, run_takeDeferred hK, .slice A1 (commonF (txts rs)).length c1, ?_, ?_⟩⟩
    · simp [results, Try.f10, go_sem]
    · exact told_end (b := w.heap.size + 1) (by omega) (by omega) h1 h4 h5
  case stop => exact fun W _ f => f.elim
/-- The program's calls are as the laws want them, whatever lies in memory. -/
theorem wvc : WvC fun _ => True :=
  { keep := fun _ _ _ _ => trivial
    union := fun A n c B rs w _ h hn hin => punion A n c B rs w h hn hin
    common := fun A n c B rs w _ h hn hin => pcommon A n c B rs w h hn hin
    weave := fun A n c B rs w _ h hn hin _ => (pweave A n c B rs w h hn hin).mono fun _ _ ⟨⟨gf, lb, h1, h2, h3⟩, h4⟩ => ⟨⟨gf, lb, h1, h2, seqR_of_A h3⟩, h4⟩ }
end Go.Proofs.Ytmdfkchgklphlaa
