/- Layer 8, the document: tokens by the plain code. -/
import Derived.Test.YtjlkjebmilfgoaaGreatDP
import Derived.Test.YtjlkjebmilfgoaaGreatRTree
import Derived.Test.YtjlkjebmilfgoaaGreatEnc
import Derived.Test.YtjlkjebmilfgoaaGreatTLaid
/- Layer 8, the document: tokens, written by the plain code. -/
namespace Go.Proofs.YtjlkjebmilfgoaaGreat
open Go.RowKit

/-- A symbol's bits laid behind the writer's. -/
theorem wt_app {wx w6 : World} {b : Nat} {A : Option Addr} {n c g x : Nat} {l r : List UInt8} (h : Wt wx b A n c l) (hm : Made 5 wx.drew (some ⟨g, 0, none⟩) x x (bcells r) w6) (hl : r.length = x) (hn : n ≤ 1000000) (hx : x ≤ 100) :
    w6.cell? ⟨b, 0, none⟩ = some (.slice A n c) ∧ ∃ A9 c9 w9, (Builtin.append_ #[34, 34] 34 #[.slice A n c, .slice (some ⟨g, 0, none⟩) x x]).run Tryz.prog w6 = .ok (.slice A9 (n + x) c9) w9 ∧ Only (Lies A) w6 w9 ∧ w9.cell? ⟨b, 0, none⟩ = some (.slice A n c) ∧ w9.frozen? ⟨b, 0, none⟩ = false ∧
      Wt (w9.setCell ⟨b, 0, none⟩ (.slice A9 (n + x) c9)) b A9 (n + x) c9 (l ++ r) ∧ Only (fun j => j = b ∨ Lies A j) wx (w9.setCell ⟨b, 0, none⟩ (.slice A9 (n + x) c9)) ∧ ∀ j, Lies A9 j → Lies A j ∨ wx.heap.size ≤ j := by
  have o6 : Only (fun _ => False) wx w6 := ((Only.refl _ wx).drew).trans hm.2.1
  have h6 := h.new o6
  have hsrc : Src Tryz.prog 1 34 (.slice (some ⟨g, 0, none⟩) x x) x (bcells r) w6 := See.src (c := x) Tryz.underlying34 hm.1.see (by rw [bcells_length, hl]) (by simp [bcells, Value.oneCell'])
  obtain ⟨A9, c9, w9, hrun, r1, r2, r3⟩ := run_append_row (P := Tryz.prog) (ty := 40) Tryz.underlying34 info5 h6.row (r := bcells r) (m := x) (by rw [bcells_length, hl]) hsrc (by decide) (by omega)
  have hap : bcells l ++ bcells r = bcells (l ++ r) := by simp [bcells]
  rw [hap] at r1
  obtain ⟨f1, f2, f3, f4, f5⟩ := h6.append r1 hl r2 r3
  exact ⟨h6.is.cell 0 rfl, A9, c9, w9, hrun, r2, f4, f5, f1, (o6.mono fun _ f => f.elim).trans f2, fun j hj => (f3 j hj).imp id fun x => Nat.le_trans o6.size x⟩

/-- Where writing stands. -/
structure TAt (w : World) (b : Nat) (Aa Ab Ax Ay : Option Addr) (A : Option Addr) (n c : Nat) (l : List UInt8) (wx : World) : Prop where
  wt : Wt wx b A n c l
  only : Only (fun _ => False) w wx
  bn : w.heap.size ≤ b
  an : ∀ j, Lies A j → b < j
  sa : See wx b Aa (ints fixA)
  sb : See wx b Ab (ints fixB)
  sx : See wx b Ax (ints (cds fixA))
  sy : See wx b Ay (ints (cds fixB))
section
variable {w wx wy : World} {b : Nat} {Aa Ab Ax Ay A A2 : Option Addr} {n c n2 c2 : Nat} {l l2 : List UInt8}
theorem TAt.step (h : TAt w b Aa Ab Ax Ay A n c l wx) (hw : Wt wy b A2 n2 c2 l2) (ho : Only (fun j => j = b ∨ Lies A j) wx wy) (hl : ∀ j, Lies A2 j → Lies A j ∨ wx.heap.size ≤ j) : TAt w b Aa Ab Ax Ay A2 n2 c2 l2 wy := by
  have hbl := h.wt.is.lt
  have hk : Keep b wx wy := ho.mono fun j hj => hj.elim (fun e => Nat.le_of_eq e.symm) (fun e => Nat.le_of_lt (h.an j e))
  refine ⟨hw, h.only.andThen ho ?_, h.bn, fun j hj => (hl j hj).elim (h.an j) (fun x => by omega), h.sa.keep hk, h.sb.keep hk, h.sx.keep hk, h.sy.keep hk⟩
  have := h.bn
  rintro j (e | e)
  · exact .inr (by omega)
  · exact .inr (by have := h.an j e; omega)
theorem TAt.new (h : TAt w b Aa Ab Ax Ay A n c l wx) (k : Only (fun _ => False) wx wy) : TAt w b Aa Ab Ax Ay A n c l wy :=
  ⟨h.wt.new k, h.only.trans k, h.bn, h.an, h.sa.new k, h.sb.new k, h.sx.new k, h.sy.new k⟩
end

/-- What a token's numbers keep to. -/
theorem far_bounds {n k : Int} {y v m d v2 m2 : Nat} (hl : LenIs n (y : Nat) (v : Nat) (m : Nat) true) (hd : DistIs k (d : Nat) (v2 : Nat) (m2 : Nat) true) : 3 ≤ n ∧ y < 288 ∧ v ≤ 15 ∧ m < 32768 ∧ d < 32 ∧ v2 ≤ 15 ∧ m2 < 32768 := by
  generalize hy : ((y : Nat) : Int) = yi at hl
  generalize hv : ((v : Nat) : Int) = vi at hl
  generalize hm : ((m : Nat) : Int) = mi at hl
  generalize hy2 : ((d : Nat) : Int) = di at hd
  generalize hv2 : ((v2 : Nat) : Int) = vi2 at hd
  generalize hm2 : ((m2 : Nat) : Int) = mi2 at hd
  have k1 : 3 ≤ n ∧ y < 288 ∧ v ≤ 15 ∧ m < 32768 := by
    cases hl with
    | last => omega
    | row s m' hs' hm' hh =>
      have h0 : 3 ≤ lf s := by have := lf_mono 0 s; rw [Nat.zero_add] at this; exact this
      have h1 := lb15 s hs'
      have h2 : (2 : Nat) ^ lb s ≤ 2 ^ 15 := Nat.pow_le_pow_right (by decide) h1
      omega
  have k2 : d < 32 ∧ v2 ≤ 15 ∧ m2 < 32768 := by
    cases hd with
    | row s m' hs' hm' =>
      have h1 := db15 s hs'
      have h2 : (2 : Nat) ^ db s ≤ 2 ^ 15 := Nat.pow_le_pow_right (by decide) h1
      omega
  exact ⟨k1.1, k1.2.1, k1.2.2.1, k1.2.2.2, k2.1, k2.2.1, k2.2.2⟩

/-- The same, with a token beside. -/
structure TG (w : World) (b : Nat) (Aa Ab Ax Ay : Option Addr) (A : Option Addr) (n c : Nat) (l : List UInt8) (g : Nat) (cs : List Value) (wx : World) : Prop where
  at_ : TAt w b Aa Ab Ax Ay A n c l wx
  is : Is wx g 81 cs
  far : ¬ Lies A g
  gb : b < g
section
variable {w wx wy : World} {b g : Nat} {Aa Ab Ax Ay A A2 : Option Addr} {n c n2 c2 : Nat} {l l2 : List UInt8} {cs : List Value}
theorem TG.step (h : TG w b Aa Ab Ax Ay A n c l g cs wx) (hw : Wt wy b A2 n2 c2 l2) (ho : Only (fun j => j = b ∨ Lies A j) wx wy) (hl : ∀ j, Lies A2 j → Lies A j ∨ wx.heap.size ≤ j) : TG w b Aa Ab Ax Ay A2 n2 c2 l2 g cs wy := by
  have hlt := h.is.lt
  have hgb := h.gb
  refine ⟨h.at_.step hw ho hl, h.is.only ho ?_, fun hj => (hl g hj).elim h.far (fun x => by omega), h.gb⟩
  rintro (e | e)
  · omega
  · exact h.far e
theorem TG.new (h : TG w b Aa Ab Ax Ay A n c l g cs wx) (k : Only (fun _ => False) wx wy) : TG w b Aa Ab Ax Ay A n c l g cs wy := ⟨h.at_.new k, h.is.only k (fun f => f), h.far, h.gb⟩
theorem TAt.tok (h : TAt w b Aa Ab Ax Ay A n c l wx) (vs : List Value) : TG w b Aa Ab Ax Ay A n c l wx.heap.size vs (wx.alloc (.cells vs.toArray 81)) :=
  ⟨h.new ((Only.refl _ wx).alloc _), Is.new wx 81 vs, fun hj => Nat.lt_irrefl _ (h.wt.row.lies _ hj), h.wt.is.lt⟩
end
end Go.Proofs.YtjlkjebmilfgoaaGreat

/- Layer 8, the document: tokens, written by the plain code: the walk. -/
namespace Go.Proofs.YtjlkjebmilfgoaaGreat
open Go.RowKit

/-- The same, and the row is the call's own. -/
def TokPost2 (w : World) (E : List UInt8) (e : Ending) (w' : World) : Prop := ∃ A c n, e = .returned (.slice A n c) ∧ E.length = n ∧ Row 5 w' A n c (bcells E) ∧ (∀ j, Lies A j → w.heap.size ≤ j) ∧ Only (fun _ => False) w w'
def TokPost (w : World) (E : List UInt8) (e : Ending) (w' : World) : Prop := ∃ A c n, e = .returned (.slice A n c) ∧ E.length = n ∧ See w' w'.heap.size A (bcells E) ∧ Only (fun _ => False) w w'

theorem enc_split {ts : List Tk} {j : Nat} {t : Tk} {Y : List UInt8} (ht : ts[j]? = some t) (h : EncIs (ts.drop j) Y) : ∃ x y, TokIs t x ∧ EncIs (ts.drop (j + 1)) y ∧ Y = x ++ y := by
  rw [List.drop_eq_getElem_cons (by rcases Nat.lt_or_ge j ts.length with h1 | h1; exact h1; rw [List.getElem?_eq_none h1] at ht; cases ht)] at h
  rw [show ts[j]'_ = t from (List.getElem?_eq_some_iff.1 ht).2] at h
  cases h with
  | cons _ _ x y h r => exact ⟨x, y, h, r, rfl⟩
theorem tok_split {bb : UInt8} {tn tk : Int} {x : List UInt8} (h : TokIs ⟨bb, tn, tk⟩ x) : (tn = 0 ∧ tk = 0 ∧ x = code fixA bb.toNat) ∨ ∃ y v m d v2 m2 : Nat, LenIs tn (y : Nat) (v : Nat) (m : Nat) true ∧ DistIs tk (d : Nat) (v2 : Nat) (m2 : Nat) true ∧ x = code fixA y ++ (nb m v ++ (code fixB d ++ nb m2 v2)) := by
  cases h with
  | lit b => exact .inl ⟨rfl, rfl, rfl⟩
  | far b n k y v m d v2 m2 hl hd => exact .inr ⟨y, v, m, d, v2, m2, hl, hd, rfl⟩

set_option maxRecDepth 100000 in
set_option maxHeartbeats 16000000 in
theorem dtokens2 (AT : Option Addr) (nT cT : Nat) (ts : List Tk) (X : List UInt8) (w : World) (h : See w w.heap.size AT (tks ts)) (hn : ts.length = nT) (h60 : nT ≤ 60) (he : EncIs ts X) (hX : X.length ≤ 100000) :
    Calls Tryz.prog 38 #[.slice AT nT cT] w (TokPost2 w (nb 3 3 ++ (X ++ code fixA 256))) := by
  have HS := Lib.hid h
  have HN := Lib.hid hn
  have HE := Lib.hid he
  have HF := Lib.hid (dfixed w)
  clear h hn he
  go_enter Tryz.func38, Tryz.ntmps38
  go_wp2_with fail
  refine HF.out.mono ?_
  rintro e w1 ⟨Aa, ca, Ab, cb, rfl, s1, s2, o1, l1, l2⟩
  have HC1 := Lib.hid (rcodes Aa 288 ca _ fixA w1 s1 fixA_length (by decide) lens_fixA.low)
  have HO1 := Lib.hid o1
  have HS1 := Lib.hid s1
  have HS2 := Lib.hid s2
  clear s1 s2 o1 l1 l2 HF
  go_wp2_with fail
  refine HC1.out.mono ?_
  rintro e w2 ⟨gx, rfl, m2⟩
  have HC2 := Lib.hid (rcodes Ab 32 cb _ fixB w2 ((HS2.out.new m2.2.1).more m2.2.1.size) (by decide +kernel) (by decide) lens_fixB.low)
  have HM2 := Lib.hid m2
  clear m2 HC1
  go_wp2_with fail
  refine HC2.out.mono ?_
  rintro e w3 ⟨gy, rfl, m3⟩
  have HM3 := Lib.hid m3
  clear m3 HC2
  obtain ⟨w4, hw4⟩ : ∃ w4, w3.alloc (.cells #[.slice none 0 0] 60) = w4 := ⟨_, rfl⟩
  have ho4 : Only (fun _ => False) w3 w4 := by rw [← hw4]; exact (Only.refl _ w3).alloc _
  have hno : ∀ j, ¬ Lies none j := by rintro j ⟨ad, e, _⟩; cases e
  obtain ⟨Ax, hAx⟩ : ∃ Ax : Option Addr, some ⟨gx, 0, none⟩ = Ax := ⟨_, rfl⟩
  obtain ⟨Ay, hAy⟩ : ∃ Ay : Option Addr, some ⟨gy, 0, none⟩ = Ay := ⟨_, rfl⟩
  have hT4 : TAt w w3.heap.size Aa Ab Ax Ay none 0 0 [] w4 := by
    have o23 := HM3.out.2.1
    have o12 := HM2.out.2.1
    have o13 := o12.trans o23
    refine ⟨⟨by rw [← hw4]; exact Is.new w3 60 [.slice none 0 0], Row.nil 5 w4, rfl, hno _⟩, (HO1.out.trans o13).trans ho4, (HO1.out.trans o13).size, fun j hj => (hno j hj).elim, ((HS1.out.new o13).more o13.size).new ho4, ((HS2.out.new o13).more o13.size).new ho4, ?_, ?_⟩
    · rw [← hAx]; exact ((HM2.out.see.new o23).more o23.size).new ho4
    · rw [← hAy]; exact HM3.out.see.new ho4
  rw [hAx, hAy]
  obtain ⟨b, hbb⟩ : ∃ b, w3.heap.size = b := ⟨_, rfl⟩
  rw [hbb] at hT4
  have HP4 := Lib.hid (dput b none 0 0 3 3 [] w4 hT4.wt (by decide) (by decide) (by decide))
  have HT4 := Lib.hid hT4
  clear hT4 ho4 hno hAx hAy HM2 HM3 HS1 HS2 HO1
  go_wp2_with fail
  refine HP4.out.mono ?_
  rintro e w5 ⟨rfl, A5, n5, c5, k1, k2, k3⟩
  have hT5 := HT4.out.step k1 k2 k3
  rw [List.nil_append] at hT5
  have hn5 : n5 = 3 := by rw [← hT5.wt.len, nb_length]
  subst hn5
  have HT5 := Lib.hid hT5
  clear k1 k2 k3 HP4 HT4 hT5
  go_wp2_with fail
  go_loopg [8] nT (fun gk i wx => ∃ (j n c : Nat) (A : Option Addr) (Xi Yi : List UInt8), i = .int .i64 j ∧ j + gk ≤ nT ∧ nT ≤ j + gk ∧ n ≤ 3 + 100 * j ∧ Hid (X = Xi ++ Yi ∧ EncIs (ts.drop j) Yi ∧ TAt w b Aa Ab Ax Ay A n c (nb 3 3 ++ Xi) wx))
  case atStart => exact ⟨0, 3, c5, A5, [], X, rfl, by omega, by omega, by omega, Lib.hid ⟨rfl, HE.out, by rw [List.append_nil]; exact HT5.out⟩⟩
  case round =>
    clear HT5 HE
    obtain ⟨j, n, c, A, Xi, Yi, rfl, hg1, hg2, hn, HI⟩ := hrel
    obtain ⟨gO, hgO⟩ : ∃ gO, gk = gO := ⟨_, rfl⟩
    by_cases hlt : j < nT
    · obtain ⟨t, ht⟩ : ∃ t, ts[j]? = some t := ⟨ts[j]'(by rw [HN.out]; exact hlt), by simp [HN.out, hlt]⟩
      obtain ⟨b0, off, rfl, _, c0, c1, c2⟩ := (HS.out.new HI.out.2.2.only).token j t ht
      obtain ⟨x1, Y1, hty, henc, hyy⟩ := enc_split ht HI.out.2.1
      have HEN := Lib.hid henc
      have HX1 : Hid (X = Xi ++ (x1 ++ Y1)) := Lib.hid (by rw [← hyy]; exact HI.out.1)
      obtain ⟨bb, tn, tk⟩ := t
      simp only at c0 c1 c2
      obtain ⟨y, hy⟩ : ∃ y, bb.toNat = y := ⟨_, rfl⟩
      have hy2 : y < 256 := by rw [← hy]; exact byte_lt bb
      rw [hy] at c0
      have hts := tok_split hty
      rw [hy] at hts
      clear ht henc hyy hty hy
      go_upto_region 10 with fail
      obtain ⟨wa, hwa⟩ : ∃ wa, wr.alloc (.cells #[.int .u8 (y : Nat), .int .i64 tn, .int .i64 tk] 81) = wa := ⟨_, rfl⟩
      obtain ⟨g, hg⟩ : ∃ g, wr.heap.size = g := ⟨_, rfl⟩
      have hG : TG w b Aa Ab Ax Ay A n c (nb 3 3 ++ Xi) g [.int .u8 (y : Nat), .int .i64 tn, .int .i64 tk] wa := by rw [← hwa, ← hg]; exact HI.out.2.2.tok _
      rw [hwa, hg]
      have ca0 := hG.is.cell 0 rfl
      have ca1 := hG.is.cell 1 rfl
      have ca2 := hG.is.cell 2 rfl
      have HTA := Lib.hid hG
      clear hwa hg hG HI c0 c1 c2
      rcases hts with ⟨rfl, rfl, rfl⟩ | ⟨sy, v, m, d, v2, m2, hl, hd, rfl⟩
      · go_upto_region 11 with fail
        obtain ⟨x, hx⟩ : ∃ x, ln fixA y = x := ⟨_, rfl⟩
        have hx15 : x ≤ 15 := by rw [← hx]; exact ln_le fixA y lens_fixA.low
        have HBT := Lib.hid (rbits Aa Ax 288 ca 288 b y fixA wa.drew (HTA.out.at_.sa.new ((Only.refl _ wa).drew)) (HTA.out.at_.sx.new ((Only.refl _ wa).drew)) fixA_length (by decide) lens_fixA.low (fixA_has y (by omega)))
        rw [hx] at HBT
        have HAP : Hid (∀ gg w6, Made 5 wa.drew (some ⟨gg, 0, none⟩) x x (bcells (hb x (cd fixA y))) w6 → _) := Lib.hid fun gg w6 hm => wt_app HTA.out.at_.wt hm (hb_length x _) (by omega) (by omega)
        have HXL := Lib.hid hx
        have d0 := HTA.out.at_.wt.is.cell 0 rfl
        clear hx
        go_cut [] (fun wx => ∃ A9 c9, Hid (TG w b Aa Ab Ax Ay A9 (n + x) c9 ((nb 3 3 ++ Xi) ++ hb x (cd fixA y)) g [.int .u8 (y : Nat), .int .i64 0, .int .i64 0] wx))
        case first =>
          refine Walk.region (fun W => W.cell? ⟨g, 0, none⟩ = some (.int .u8 (y : Nat))) (.t 0 (.t 1 (.t 2 (.t 3 (.t 5 (.t 6 (.t 7 (.t 8 (.t 9 (.two 4 10 (.f 10 (.f 11 (.t 12 (.t 13 (.f 14 .nil))))) (.f 4 (.f 11 (.t 12 (.t 13 (.f 14 .nil))))))))))))))) (by kernel_rfl) (by kernel_rfl) (by kernel_rfl) (fun _ _ d _ _ h => by cases d <;> exact h) ?_
          refine Walk.take (.pointer (some ⟨b, 0, none⟩)) rfl ca0 (fun _ hW => by kernel_rfl) ?_
          simp only [Act.put, List.setIfInBounds_toArray, List.set_cons_succ, List.set_cons_zero]
          refine Walk.take (.pointer (some ⟨b, 0, none⟩)) rfl ca0 (fun _ hW => by kernel_rfl) ?_
          simp only [Act.put, List.setIfInBounds_toArray, List.set_cons_succ, List.set_cons_zero]
          refine Walk.take (.pointer (some ⟨b, 0, none⟩)) rfl ca0 (fun _ hW => by kernel_rfl) ?_
          simp only [Act.put, List.setIfInBounds_toArray, List.set_cons_succ, List.set_cons_zero]
          refine Walk.take (.pointer (some ⟨b, 0, none⟩)) rfl ca0 (fun _ hW => by kernel_rfl) ?_
          simp only [Act.put, List.setIfInBounds_toArray, List.set_cons_succ, List.set_cons_zero]
          refine Walk.take (.slice Aa 288 ca) rfl ca0 (fun _ hW => by kernel_rfl) ?_
          simp only [Act.put, List.setIfInBounds_toArray, List.set_cons_succ, List.set_cons_zero]
          refine Walk.take (.slice Ax 288 288) rfl ca0 (fun _ hW => by kernel_rfl) ?_
          simp only [Act.put, List.setIfInBounds_toArray, List.set_cons_succ, List.set_cons_zero]
          refine Walk.take (.pointer (some ⟨g, 0, none⟩)) rfl ca0 (fun _ hW => by kernel_rfl) ?_
          simp only [Act.put, List.setIfInBounds_toArray, List.set_cons_succ, List.set_cons_zero]
          refine Walk.take (.int .u8 (y : Nat)) rfl ca0 (fun _ hW => by go_simp) ?_
          simp only [Act.put, List.setIfInBounds_toArray, List.set_cons_succ, List.set_cons_zero]
          refine Walk.take (.int .i64 (y : Nat)) rfl ca0 (fun _ hW => by (go_simp; exact IntWalk.i64_in _ (by omega))) ?_
          simp only [Act.put, List.setIfInBounds_toArray, List.set_cons_succ, List.set_cons_zero]
          constructor
          · refine op_value (w' := wa.drew) (.slice A n c) rfl (by go_simp) ⟨ca0, ?_⟩
            simp only [Act.put, List.setIfInBounds_toArray, List.set_cons_succ, List.set_cons_zero]
            refine op_call 62 #[.slice Aa 288 ca, .slice Ax 288 288, .int .i64 (y : Nat)] rfl (by kernel_rfl) (HBT.out.mono ?_)
            rintro e w6 ⟨gg, rfl, hm6⟩
            obtain ⟨q2, A9, c9, w9, hrun, q3, q4, q5, hw9, ho9, hl9⟩ := HAP.out gg w6 hm6
            have i6 := (HTA.out.is.only (((Only.refl _ wa).drew).trans hm6.2.1) (fun f => f))
            have k6 := i6.cell 0 rfl
            have k9 := (i6.only q3 HTA.out.far).cell 0 rfl
            have k10 := (HTA.out.step hw9 ho9 hl9).is.cell 0 rfl
            refine ⟨_, rfl, k6, ?_⟩
            simp only [Act.put, List.setIfInBounds_toArray, List.set_cons_succ, List.set_cons_zero]
            refine op_value (w' := w9) (.slice A9 (n + x) c9) rfl (exec_append (.tmp 47) (.tmp 53) rfl rfl rfl hrun) ⟨k9, ?_⟩
            simp only [Act.put, List.setIfInBounds_toArray, List.set_cons_succ, List.set_cons_zero]
            refine Walk.take (.pointer (some ⟨b, 0, none⟩)) rfl k9 (fun _ hW => by kernel_rfl) ?_
            simp only [Act.put, List.setIfInBounds_toArray, List.set_cons_succ, List.set_cons_zero]
            refine Walk.take (.pointer (some ⟨b, 0, none⟩)) rfl k9 (fun _ hW => by kernel_rfl) ?_
            simp only [Act.put, List.setIfInBounds_toArray, List.set_cons_succ, List.set_cons_zero]
            refine op_skip (w' := w9.setCell ⟨b, 0, none⟩ (.slice A9 (n + x) c9)) rfl (by go_simp) ⟨k10, ?_⟩
            simp only [Act.put]
            show wpList _ _ _ _ _ _
            have HT9 := Lib.hid (HTA.out.step hw9 ho9 hl9)
            obtain ⟨w10, hw10⟩ : ∃ w10, w9.setCell ⟨b, 0, none⟩ (.slice A9 (n + x) c9) = w10 := ⟨_, rfl⟩
            rw [hw10] at HT9
            try rw [hw10]
            clear hw9 ho9 hl9 hrun q2 q3 q4 q5 hm6 HAP HBT i6 k6 k9 k10
            go_wp2_with fail
            go_meet
            exact ⟨A9, c9, HT9⟩
          · refine op_call 62 #[.slice Aa 288 ca, .slice Ax 288 288, .int .i64 (y : Nat)] rfl (by kernel_rfl) (HBT.out.mono ?_)
            rintro e w6 ⟨gg, rfl, hm6⟩
            obtain ⟨q2, A9, c9, w9, hrun, q3, q4, q5, hw9, ho9, hl9⟩ := HAP.out gg w6 hm6
            have i6 := (HTA.out.is.only (((Only.refl _ wa).drew).trans hm6.2.1) (fun f => f))
            have k6 := i6.cell 0 rfl
            have k9 := (i6.only q3 HTA.out.far).cell 0 rfl
            have k10 := (HTA.out.step hw9 ho9 hl9).is.cell 0 rfl
            refine ⟨_, rfl, k6, ?_⟩
            simp only [Act.put, List.setIfInBounds_toArray, List.set_cons_succ, List.set_cons_zero]
            refine op_value (w' := w6) (.slice A n c) rfl (by go_simp) ⟨k6, ?_⟩
            simp only [Act.put, List.setIfInBounds_toArray, List.set_cons_succ, List.set_cons_zero]
            refine op_value (w' := w9) (.slice A9 (n + x) c9) rfl (exec_append (.tmp 47) (.tmp 53) rfl rfl rfl hrun) ⟨k9, ?_⟩
            simp only [Act.put, List.setIfInBounds_toArray, List.set_cons_succ, List.set_cons_zero]
            refine Walk.take (.pointer (some ⟨b, 0, none⟩)) rfl k9 (fun _ hW => by kernel_rfl) ?_
            simp only [Act.put, List.setIfInBounds_toArray, List.set_cons_succ, List.set_cons_zero]
            refine Walk.take (.pointer (some ⟨b, 0, none⟩)) rfl k9 (fun _ hW => by kernel_rfl) ?_
            simp only [Act.put, List.setIfInBounds_toArray, List.set_cons_succ, List.set_cons_zero]
            refine op_skip (w' := w9.setCell ⟨b, 0, none⟩ (.slice A9 (n + x) c9)) rfl (by go_simp) ⟨k10, ?_⟩
            simp only [Act.put]
            show wpList _ _ _ _ _ _
            have HT9 := Lib.hid (HTA.out.step hw9 ho9 hl9)
            obtain ⟨w10, hw10⟩ : ∃ w10, w9.setCell ⟨b, 0, none⟩ (.slice A9 (n + x) c9) = w10 := ⟨_, rfl⟩
            rw [hw10] at HT9
            try rw [hw10]
            clear hw9 ho9 hl9 hrun q2 q3 q4 q5 hm6 HAP HBT i6 k6 k9 k10
            go_wp2_with fail
            go_meet
            exact ⟨A9, c9, HT9⟩
        case rest =>
          obtain ⟨A9, c9, HT9⟩ := hcut
          clear HTA HBT HAP ca0 ca1 ca2 d0
          go_wp2_with fail
          go_roundg (gO - 1)
          case measure => omega
          case rel =>
            refine ⟨j + 1, n + x, c9, A9, Xi ++ code fixA y, Y1, by go_num, by omega, by omega, by omega, Lib.hid ⟨by rw [List.append_assoc]; exact HX1.out, HEN.out, ?_⟩⟩
            have := HT9.out.at_
            unfold code
            rw [HXL.out, ← List.append_assoc]
            exact this
      · obtain ⟨b1, b2, b3, b4, b5, b6, b7⟩ := far_bounds hl hd
        have hnn : (tn == 0) = false := by simp; omega
        have hnz : ¬ tn = 0 := by omega
        have HL := Lib.hid (rlength tn sy v m true wa hl)
        have HD : Hid (∀ wx, Calls Tryz.prog 64 #[.int .i64 tk] wx (FourPost wx (d : Nat) (v2 : Nat) (m2 : Nat) true)) := Lib.hid fun wx => rdistance tk d v2 m2 true wx hd
        clear hl hd
        go_upto_region 13 with (go_at_call 63; refine HL.out.mono ?_; rintro e w2 ⟨rfl, ho⟩; have HTB := Lib.hid (HTA.out.new ho); clear ho)
        clear HTA HL ca0 ca1 ca2 hnn hnz
        have HTA := HTB
        clear HTB
        obtain ⟨x, hx⟩ : ∃ x, ln fixA sy = x := ⟨_, rfl⟩
        have hx15 : x ≤ 15 := by rw [← hx]; exact ln_le fixA sy lens_fixA.low
        have HBT := Lib.hid (rbits Aa Ax 288 ca 288 b sy fixA w2.drew (HTA.out.at_.sa.new ((Only.refl _ w2).drew)) (HTA.out.at_.sx.new ((Only.refl _ w2).drew)) fixA_length (by decide) lens_fixA.low (fixA_has sy b2))
        rw [hx] at HBT
        have HAP : Hid (∀ gg w6, Made 5 w2.drew (some ⟨gg, 0, none⟩) x x (bcells (hb x (cd fixA sy))) w6 → _) := Lib.hid fun gg w6 hm => wt_app HTA.out.at_.wt hm (hb_length x _) (by omega) (by omega)
        have HXL := Lib.hid hx
        have d0 := HTA.out.at_.wt.is.cell 0 rfl
        clear hx
        go_cut [] (fun wx => ∃ A9 c9, Hid (TG w b Aa Ab Ax Ay A9 (n + x) c9 ((nb 3 3 ++ Xi) ++ hb x (cd fixA sy)) g [.int .u8 (y : Nat), .int .i64 tn, .int .i64 tk] wx))
        case first =>
          refine Walk.region (fun W => True) (.t 0 (.t 1 (.t 2 (.t 3 (.t 5 (.t 6 (.t 7 (.two 4 8 (.f 8 (.f 9 (.t 10 (.t 11 (.f 12 .nil))))) (.f 4 (.f 9 (.t 10 (.t 11 (.f 12 .nil))))))))))))) (by kernel_rfl) (by kernel_rfl) (by kernel_rfl) (fun _ _ d _ _ h => by cases d <;> exact h) ?_
          refine Walk.take (.pointer (some ⟨b, 0, none⟩)) rfl trivial (fun _ hW => by kernel_rfl) ?_
          simp only [Act.put, List.setIfInBounds_toArray, List.set_cons_succ, List.set_cons_zero]
          refine Walk.take (.pointer (some ⟨b, 0, none⟩)) rfl trivial (fun _ hW => by kernel_rfl) ?_
          simp only [Act.put, List.setIfInBounds_toArray, List.set_cons_succ, List.set_cons_zero]
          refine Walk.take (.pointer (some ⟨b, 0, none⟩)) rfl trivial (fun _ hW => by kernel_rfl) ?_
          simp only [Act.put, List.setIfInBounds_toArray, List.set_cons_succ, List.set_cons_zero]
          refine Walk.take (.pointer (some ⟨b, 0, none⟩)) rfl trivial (fun _ hW => by kernel_rfl) ?_
          simp only [Act.put, List.setIfInBounds_toArray, List.set_cons_succ, List.set_cons_zero]
          refine Walk.take (.slice Aa 288 ca) rfl trivial (fun _ hW => by kernel_rfl) ?_
          simp only [Act.put, List.setIfInBounds_toArray, List.set_cons_succ, List.set_cons_zero]
          refine Walk.take (.slice Ax 288 288) rfl trivial (fun _ hW => by kernel_rfl) ?_
          simp only [Act.put, List.setIfInBounds_toArray, List.set_cons_succ, List.set_cons_zero]
          refine Walk.take (.int .i64 (sy : Nat)) rfl trivial (fun _ hW => by kernel_rfl) ?_
          simp only [Act.put, List.setIfInBounds_toArray, List.set_cons_succ, List.set_cons_zero]
          constructor
          · refine op_value (w' := w2.drew) (.slice A n c) rfl (by go_simp) ⟨trivial, ?_⟩
            simp only [Act.put, List.setIfInBounds_toArray, List.set_cons_succ, List.set_cons_zero]
            refine op_call 62 #[.slice Aa 288 ca, .slice Ax 288 288, .int .i64 (sy : Nat)] rfl (by kernel_rfl) (HBT.out.mono ?_)
            rintro e w6 ⟨gg, rfl, hm6⟩
            obtain ⟨q2, A9, c9, w9, hrun, q3, q4, q5, hw9, ho9, hl9⟩ := HAP.out gg w6 hm6
            skip
            refine ⟨_, rfl, trivial, ?_⟩
            simp only [Act.put, List.setIfInBounds_toArray, List.set_cons_succ, List.set_cons_zero]
            refine op_value (w' := w9) (.slice A9 (n + x) c9) rfl (exec_append (.tmp 69) (.tmp 73) rfl rfl rfl hrun) ⟨trivial, ?_⟩
            simp only [Act.put, List.setIfInBounds_toArray, List.set_cons_succ, List.set_cons_zero]
            refine Walk.take (.pointer (some ⟨b, 0, none⟩)) rfl trivial (fun _ hW => by kernel_rfl) ?_
            simp only [Act.put, List.setIfInBounds_toArray, List.set_cons_succ, List.set_cons_zero]
            refine Walk.take (.pointer (some ⟨b, 0, none⟩)) rfl trivial (fun _ hW => by kernel_rfl) ?_
            simp only [Act.put, List.setIfInBounds_toArray, List.set_cons_succ, List.set_cons_zero]
            refine op_skip (w' := w9.setCell ⟨b, 0, none⟩ (.slice A9 (n + x) c9)) rfl (by go_simp) ⟨trivial, ?_⟩
            simp only [Act.put]
            show wpList _ _ _ _ _ _
            have HT9 := Lib.hid (HTA.out.step hw9 ho9 hl9)
            obtain ⟨w10, hw10⟩ : ∃ w10, w9.setCell ⟨b, 0, none⟩ (.slice A9 (n + x) c9) = w10 := ⟨_, rfl⟩
            rw [hw10] at HT9
            try rw [hw10]
            clear hw9 ho9 hl9 hrun q2 q3 q4 q5 hm6 HAP HBT 
            go_wp2_with fail
            go_meet
            exact ⟨A9, c9, HT9⟩
          · refine op_call 62 #[.slice Aa 288 ca, .slice Ax 288 288, .int .i64 (sy : Nat)] rfl (by kernel_rfl) (HBT.out.mono ?_)
            rintro e w6 ⟨gg, rfl, hm6⟩
            obtain ⟨q2, A9, c9, w9, hrun, q3, q4, q5, hw9, ho9, hl9⟩ := HAP.out gg w6 hm6
            skip
            refine ⟨_, rfl, trivial, ?_⟩
            simp only [Act.put, List.setIfInBounds_toArray, List.set_cons_succ, List.set_cons_zero]
            refine op_value (w' := w6) (.slice A n c) rfl (by go_simp) ⟨trivial, ?_⟩
            simp only [Act.put, List.setIfInBounds_toArray, List.set_cons_succ, List.set_cons_zero]
            refine op_value (w' := w9) (.slice A9 (n + x) c9) rfl (exec_append (.tmp 69) (.tmp 73) rfl rfl rfl hrun) ⟨trivial, ?_⟩
            simp only [Act.put, List.setIfInBounds_toArray, List.set_cons_succ, List.set_cons_zero]
            refine Walk.take (.pointer (some ⟨b, 0, none⟩)) rfl trivial (fun _ hW => by kernel_rfl) ?_
            simp only [Act.put, List.setIfInBounds_toArray, List.set_cons_succ, List.set_cons_zero]
            refine Walk.take (.pointer (some ⟨b, 0, none⟩)) rfl trivial (fun _ hW => by kernel_rfl) ?_
            simp only [Act.put, List.setIfInBounds_toArray, List.set_cons_succ, List.set_cons_zero]
            refine op_skip (w' := w9.setCell ⟨b, 0, none⟩ (.slice A9 (n + x) c9)) rfl (by go_simp) ⟨trivial, ?_⟩
            simp only [Act.put]
            show wpList _ _ _ _ _ _
            have HT9 := Lib.hid (HTA.out.step hw9 ho9 hl9)
            obtain ⟨w10, hw10⟩ : ∃ w10, w9.setCell ⟨b, 0, none⟩ (.slice A9 (n + x) c9) = w10 := ⟨_, rfl⟩
            rw [hw10] at HT9
            try rw [hw10]
            clear hw9 ho9 hl9 hrun q2 q3 q4 q5 hm6 HAP HBT 
            go_wp2_with fail
            go_meet
            exact ⟨A9, c9, HT9⟩
        case rest =>
          obtain ⟨A9, c9, HT9⟩ := hcut
          clear HTA HBT HAP d0
          rw [show hb x (cd fixA sy) = code fixA sy from by unfold code; rw [HXL.out]] at HT9
          obtain ⟨L1, hL1⟩ : ∃ L1, nb 3 3 ++ Xi ++ code fixA sy = L1 := ⟨_, rfl⟩
          obtain ⟨N, hN⟩ : ∃ N, n + x = N := ⟨_, rfl⟩
          rw [hL1, hN] at HT9
          have hNb : N ≤ 18 + 100 * j := by omega
          have HL1 := Lib.hid hL1
          clear hL1 hN HXL
          have HPU := Lib.hid (dput b A9 N c9 m v _ wc HT9.out.at_.wt (by omega) (by omega) (by omega))
          go_upto_region 15 with (go_at_call 24; refine HPU.out.mono ?_; rintro e w3 ⟨rfl, A, n, c, k1, k2, k3⟩; have HT3 := Lib.hid (HT9.out.step k1 k2 k3); clear k1 k2 k3)
          have hn3 : n ≤ 33 + 100 * j := by
            have e1 := HT3.out.at_.wt.len
            have e2 := HT9.out.at_.wt.len
            rw [List.length_append, nb_length] at e1
            omega
          have ca2 := HT3.out.is.cell 2 rfl
          obtain ⟨L2, hL2⟩ : ∃ L2, L1 ++ nb m v = L2 := ⟨_, rfl⟩
          rw [hL2] at HT3
          have HL2 := Lib.hid hL2
          clear hL2 HPU HT9
          go_upto_region 16 with (go_at_call 64; refine (HD.out w3).mono ?_; rintro e w4 ⟨rfl, ho⟩; have HTA := Lib.hid (HT3.out.new ho); clear ho)
          clear HT3 HD ca2
          obtain ⟨x, hx⟩ : ∃ x, ln fixB d = x := ⟨_, rfl⟩
          have hx15 : x ≤ 15 := by rw [← hx]; exact ln_le fixB d lens_fixB.low
          have HBT := Lib.hid (rbits Ab Ay 32 cb 32 b d fixB w4.drew (HTA.out.at_.sb.new ((Only.refl _ w4).drew)) (HTA.out.at_.sy.new ((Only.refl _ w4).drew)) (by decide +kernel) (by decide) lens_fixB.low (fixB_has d b5))
          rw [hx] at HBT
          have HAP : Hid (∀ gg w6, Made 5 w4.drew (some ⟨gg, 0, none⟩) x x (bcells (hb x (cd fixB d))) w6 → _) := Lib.hid fun gg w6 hm => wt_app HTA.out.at_.wt hm (hb_length x _) (by omega) (by omega)
          have HXL := Lib.hid hx
          have d0 := HTA.out.at_.wt.is.cell 0 rfl
          clear hx
          go_cut [] (fun wx => ∃ A9 c9, Hid (TG w b Aa Ab Ax Ay A9 (n + x) c9 (L2 ++ hb x (cd fixB d)) g [.int .u8 (y : Nat), .int .i64 tn, .int .i64 tk] wx))
          case first =>
            refine Walk.region (fun W => True) (.t 0 (.t 1 (.t 2 (.t 3 (.t 5 (.t 6 (.t 7 (.two 4 8 (.f 8 (.f 9 (.t 10 (.t 11 (.f 12 .nil))))) (.f 4 (.f 9 (.t 10 (.t 11 (.f 12 .nil))))))))))))) (by kernel_rfl) (by kernel_rfl) (by kernel_rfl) (fun _ _ d _ _ h => by cases d <;> exact h) ?_
            refine Walk.take (.pointer (some ⟨b, 0, none⟩)) rfl trivial (fun _ hW => by kernel_rfl) ?_
            simp only [Act.put, List.setIfInBounds_toArray, List.set_cons_succ, List.set_cons_zero]
            refine Walk.take (.pointer (some ⟨b, 0, none⟩)) rfl trivial (fun _ hW => by kernel_rfl) ?_
            simp only [Act.put, List.setIfInBounds_toArray, List.set_cons_succ, List.set_cons_zero]
            refine Walk.take (.pointer (some ⟨b, 0, none⟩)) rfl trivial (fun _ hW => by kernel_rfl) ?_
            simp only [Act.put, List.setIfInBounds_toArray, List.set_cons_succ, List.set_cons_zero]
            refine Walk.take (.pointer (some ⟨b, 0, none⟩)) rfl trivial (fun _ hW => by kernel_rfl) ?_
            simp only [Act.put, List.setIfInBounds_toArray, List.set_cons_succ, List.set_cons_zero]
            refine Walk.take (.slice Ab 32 cb) rfl trivial (fun _ hW => by kernel_rfl) ?_
            simp only [Act.put, List.setIfInBounds_toArray, List.set_cons_succ, List.set_cons_zero]
            refine Walk.take (.slice Ay 32 32) rfl trivial (fun _ hW => by kernel_rfl) ?_
            simp only [Act.put, List.setIfInBounds_toArray, List.set_cons_succ, List.set_cons_zero]
            refine Walk.take (.int .i64 (d : Nat)) rfl trivial (fun _ hW => by kernel_rfl) ?_
            simp only [Act.put, List.setIfInBounds_toArray, List.set_cons_succ, List.set_cons_zero]
            constructor
            · refine op_value (w' := w4.drew) (.slice A n c) rfl (by go_simp) ⟨trivial, ?_⟩
              simp only [Act.put, List.setIfInBounds_toArray, List.set_cons_succ, List.set_cons_zero]
              refine op_call 62 #[.slice Ab 32 cb, .slice Ay 32 32, .int .i64 (d : Nat)] rfl (by kernel_rfl) (HBT.out.mono ?_)
              rintro e w6 ⟨gg, rfl, hm6⟩
              obtain ⟨q2, A9, c9, w9, hrun, q3, q4, q5, hw9, ho9, hl9⟩ := HAP.out gg w6 hm6
              skip
              refine ⟨_, rfl, trivial, ?_⟩
              simp only [Act.put, List.setIfInBounds_toArray, List.set_cons_succ, List.set_cons_zero]
              refine op_value (w' := w9) (.slice A9 (n + x) c9) rfl (exec_append (.tmp 94) (.tmp 98) rfl rfl rfl hrun) ⟨trivial, ?_⟩
              simp only [Act.put, List.setIfInBounds_toArray, List.set_cons_succ, List.set_cons_zero]
              refine Walk.take (.pointer (some ⟨b, 0, none⟩)) rfl trivial (fun _ hW => by kernel_rfl) ?_
              simp only [Act.put, List.setIfInBounds_toArray, List.set_cons_succ, List.set_cons_zero]
              refine Walk.take (.pointer (some ⟨b, 0, none⟩)) rfl trivial (fun _ hW => by kernel_rfl) ?_
              simp only [Act.put, List.setIfInBounds_toArray, List.set_cons_succ, List.set_cons_zero]
              refine op_skip (w' := w9.setCell ⟨b, 0, none⟩ (.slice A9 (n + x) c9)) rfl (by go_simp) ⟨trivial, ?_⟩
              simp only [Act.put]
              show wpList _ _ _ _ _ _
              have HT9 := Lib.hid (HTA.out.step hw9 ho9 hl9)
              obtain ⟨w10, hw10⟩ : ∃ w10, w9.setCell ⟨b, 0, none⟩ (.slice A9 (n + x) c9) = w10 := ⟨_, rfl⟩
              rw [hw10] at HT9
              try rw [hw10]
              clear hw9 ho9 hl9 hrun q2 q3 q4 q5 hm6 HAP HBT 
              go_wp2_with fail
              go_meet
              exact ⟨A9, c9, HT9⟩
            · refine op_call 62 #[.slice Ab 32 cb, .slice Ay 32 32, .int .i64 (d : Nat)] rfl (by kernel_rfl) (HBT.out.mono ?_)
              rintro e w6 ⟨gg, rfl, hm6⟩
              obtain ⟨q2, A9, c9, w9, hrun, q3, q4, q5, hw9, ho9, hl9⟩ := HAP.out gg w6 hm6
              skip
              refine ⟨_, rfl, trivial, ?_⟩
              simp only [Act.put, List.setIfInBounds_toArray, List.set_cons_succ, List.set_cons_zero]
              refine op_value (w' := w6) (.slice A n c) rfl (by go_simp) ⟨trivial, ?_⟩
              simp only [Act.put, List.setIfInBounds_toArray, List.set_cons_succ, List.set_cons_zero]
              refine op_value (w' := w9) (.slice A9 (n + x) c9) rfl (exec_append (.tmp 94) (.tmp 98) rfl rfl rfl hrun) ⟨trivial, ?_⟩
              simp only [Act.put, List.setIfInBounds_toArray, List.set_cons_succ, List.set_cons_zero]
              refine Walk.take (.pointer (some ⟨b, 0, none⟩)) rfl trivial (fun _ hW => by kernel_rfl) ?_
              simp only [Act.put, List.setIfInBounds_toArray, List.set_cons_succ, List.set_cons_zero]
              refine Walk.take (.pointer (some ⟨b, 0, none⟩)) rfl trivial (fun _ hW => by kernel_rfl) ?_
              simp only [Act.put, List.setIfInBounds_toArray, List.set_cons_succ, List.set_cons_zero]
              refine op_skip (w' := w9.setCell ⟨b, 0, none⟩ (.slice A9 (n + x) c9)) rfl (by go_simp) ⟨trivial, ?_⟩
              simp only [Act.put]
              show wpList _ _ _ _ _ _
              have HT9 := Lib.hid (HTA.out.step hw9 ho9 hl9)
              obtain ⟨w10, hw10⟩ : ∃ w10, w9.setCell ⟨b, 0, none⟩ (.slice A9 (n + x) c9) = w10 := ⟨_, rfl⟩
              rw [hw10] at HT9
              try rw [hw10]
              clear hw9 ho9 hl9 hrun q2 q3 q4 q5 hm6 HAP HBT 
              go_wp2_with fail
              go_meet
              exact ⟨A9, c9, HT9⟩
          case rest =>
            obtain ⟨A9, c9, HT9⟩ := hcut
            clear HTA HBT HAP d0
            rw [show hb x (cd fixB d) = code fixB d from by unfold code; rw [HXL.out]] at HT9
            obtain ⟨L3, hL3⟩ : ∃ L3, L2 ++ code fixB d = L3 := ⟨_, rfl⟩
            obtain ⟨N2, hN2⟩ : ∃ N2, n + x = N2 := ⟨_, rfl⟩
            rw [hL3, hN2] at HT9
            have hNb2 : N2 ≤ 48 + 100 * j := by omega
            have HL3 := Lib.hid hL3
            clear hL3 hN2 HXL
            have HPU := Lib.hid (dput b A9 N2 c9 m2 v2 _ wc HT9.out.at_.wt (by omega) (by omega) (by omega))
            go_wp2_with (go_at_call 24; refine HPU.out.mono ?_; rintro e w5 ⟨rfl, A, n, c, k1, k2, k3⟩; have HT3 := Lib.hid (HT9.out.step k1 k2 k3); clear k1 k2 k3)
            have hn4 : n ≤ 63 + 100 * j := by
              have e1 := HT3.out.at_.wt.len
              have e2 := HT9.out.at_.wt.len
              rw [List.length_append, nb_length] at e1
              omega
            go_roundg (gO - 1)
            case measure => omega
            case rel =>
              refine ⟨j + 1, n, c, A, Xi ++ (code fixA sy ++ (nb m v ++ (code fixB d ++ nb m2 v2))), Y1, by go_num, by omega, by omega, by omega, Lib.hid ⟨by rw [List.append_assoc]; exact HX1.out, HEN.out, ?_⟩⟩
              have h9 := HT3.out.at_
              rw [← HL3.out, ← HL2.out, ← HL1.out] at h9
              simp only [List.append_assoc] at h9 ⊢
              exact h9
    · obtain rfl : j = nT := by omega
      have hT := HI.out.2.2
      have hX0 : Xi = X := by
        have h1 := HI.out.2.1
        rw [List.drop_of_length_le (by rw [HN.out]; exact Nat.le_refl _)] at h1
        have h2 := HI.out.1
        cases h1
        rw [List.append_nil] at h2
        exact h2.symm
      subst hX0
      clear HI
      go_upto_region 18 with fail
      have HTA := Lib.hid hT
      clear hT
      obtain ⟨x, hx⟩ : ∃ x, ln fixA 256 = x := ⟨_, rfl⟩
      have hx15 : x ≤ 15 := by rw [← hx]; exact ln_le fixA 256 lens_fixA.low
      have HBT := Lib.hid (rbits Aa Ax 288 ca 288 b 256 fixA wr.drew (HTA.out.sa.new ((Only.refl _ wr).drew)) (HTA.out.sx.new ((Only.refl _ wr).drew)) fixA_length (by decide) lens_fixA.low (fixA_has 256 (by decide)))
      rw [hx] at HBT
      have HAP : Hid (∀ gg w6, Made 5 wr.drew (some ⟨gg, 0, none⟩) x x (bcells (hb x (cd fixA 256))) w6 → _) := Lib.hid fun gg w6 hm => wt_app HTA.out.wt hm (hb_length x _) (by omega) (by omega)
      have HXL := Lib.hid hx
      have d0 := HTA.out.wt.is.cell 0 rfl
      clear hx

      go_cut [] (fun wx => ∃ A9 c9, Hid (TAt w b Aa Ab Ax Ay A9 (n + x) c9 (nb 3 3 ++ Xi ++ hb x (cd fixA 256)) wx))
      case first =>
        refine Walk.region (fun W => True) (.t 0 (.t 1 (.t 2 (.t 3 (.t 5 (.t 6 (.two 4 7 (.f 7 (.f 8 (.t 9 (.t 10 (.f 11 .nil))))) (.f 4 (.f 8 (.t 9 (.t 10 (.f 11 .nil)))))))))))) (by kernel_rfl) (by kernel_rfl) (by kernel_rfl) (fun _ _ d _ _ h => by cases d <;> exact h) ?_
        refine Walk.take (.pointer (some ⟨b, 0, none⟩)) rfl trivial (fun _ hW => by kernel_rfl) ?_
        simp only [Act.put, List.setIfInBounds_toArray, List.set_cons_succ, List.set_cons_zero]
        refine Walk.take (.pointer (some ⟨b, 0, none⟩)) rfl trivial (fun _ hW => by kernel_rfl) ?_
        simp only [Act.put, List.setIfInBounds_toArray, List.set_cons_succ, List.set_cons_zero]
        refine Walk.take (.pointer (some ⟨b, 0, none⟩)) rfl trivial (fun _ hW => by kernel_rfl) ?_
        simp only [Act.put, List.setIfInBounds_toArray, List.set_cons_succ, List.set_cons_zero]
        refine Walk.take (.pointer (some ⟨b, 0, none⟩)) rfl trivial (fun _ hW => by kernel_rfl) ?_
        simp only [Act.put, List.setIfInBounds_toArray, List.set_cons_succ, List.set_cons_zero]
        refine Walk.take (.slice Aa 288 ca) rfl trivial (fun _ hW => by kernel_rfl) ?_
        simp only [Act.put, List.setIfInBounds_toArray, List.set_cons_succ, List.set_cons_zero]
        refine Walk.take (.slice Ax 288 288) rfl trivial (fun _ hW => by kernel_rfl) ?_
        simp only [Act.put, List.setIfInBounds_toArray, List.set_cons_succ, List.set_cons_zero]
        constructor
        · refine op_value (w' := wr.drew) (.slice A n c) rfl (by go_simp) ⟨trivial, ?_⟩
          simp only [Act.put, List.setIfInBounds_toArray, List.set_cons_succ, List.set_cons_zero]
          refine op_call 62 #[.slice Aa 288 ca, .slice Ax 288 288, .int .i64 256] rfl (by kernel_rfl) (HBT.out.mono ?_)
          rintro e w6 ⟨gg, rfl, hm6⟩
          obtain ⟨q2, A9, c9, w9, hrun, q3, q4, q5, hw9, ho9, hl9⟩ := HAP.out gg w6 hm6
          skip
          refine ⟨_, rfl, trivial, ?_⟩
          simp only [Act.put, List.setIfInBounds_toArray, List.set_cons_succ, List.set_cons_zero]
          refine op_value (w' := w9) (.slice A9 (n + x) c9) rfl (exec_append (.tmp 111) (.tmp 114) rfl rfl rfl hrun) ⟨trivial, ?_⟩
          simp only [Act.put, List.setIfInBounds_toArray, List.set_cons_succ, List.set_cons_zero]
          refine Walk.take (.pointer (some ⟨b, 0, none⟩)) rfl trivial (fun _ hW => by kernel_rfl) ?_
          simp only [Act.put, List.setIfInBounds_toArray, List.set_cons_succ, List.set_cons_zero]
          refine Walk.take (.pointer (some ⟨b, 0, none⟩)) rfl trivial (fun _ hW => by kernel_rfl) ?_
          simp only [Act.put, List.setIfInBounds_toArray, List.set_cons_succ, List.set_cons_zero]
          refine op_skip (w' := w9.setCell ⟨b, 0, none⟩ (.slice A9 (n + x) c9)) rfl (by go_simp) ⟨trivial, ?_⟩
          simp only [Act.put]
          show wpList _ _ _ _ _ _
          have HT9 := Lib.hid (HTA.out.step hw9 ho9 hl9)
          obtain ⟨w10, hw10⟩ : ∃ w10, w9.setCell ⟨b, 0, none⟩ (.slice A9 (n + x) c9) = w10 := ⟨_, rfl⟩
          rw [hw10] at HT9
          try rw [hw10]
          clear hw9 ho9 hl9 hrun q2 q3 q4 q5 hm6 HAP HBT 
          go_wp2_with fail
          go_meet
          exact ⟨A9, c9, HT9⟩
        · refine op_call 62 #[.slice Aa 288 ca, .slice Ax 288 288, .int .i64 256] rfl (by kernel_rfl) (HBT.out.mono ?_)
          rintro e w6 ⟨gg, rfl, hm6⟩
          obtain ⟨q2, A9, c9, w9, hrun, q3, q4, q5, hw9, ho9, hl9⟩ := HAP.out gg w6 hm6
          skip
          refine ⟨_, rfl, trivial, ?_⟩
          simp only [Act.put, List.setIfInBounds_toArray, List.set_cons_succ, List.set_cons_zero]
          refine op_value (w' := w6) (.slice A n c) rfl (by go_simp) ⟨trivial, ?_⟩
          simp only [Act.put, List.setIfInBounds_toArray, List.set_cons_succ, List.set_cons_zero]
          refine op_value (w' := w9) (.slice A9 (n + x) c9) rfl (exec_append (.tmp 111) (.tmp 114) rfl rfl rfl hrun) ⟨trivial, ?_⟩
          simp only [Act.put, List.setIfInBounds_toArray, List.set_cons_succ, List.set_cons_zero]
          refine Walk.take (.pointer (some ⟨b, 0, none⟩)) rfl trivial (fun _ hW => by kernel_rfl) ?_
          simp only [Act.put, List.setIfInBounds_toArray, List.set_cons_succ, List.set_cons_zero]
          refine Walk.take (.pointer (some ⟨b, 0, none⟩)) rfl trivial (fun _ hW => by kernel_rfl) ?_
          simp only [Act.put, List.setIfInBounds_toArray, List.set_cons_succ, List.set_cons_zero]
          refine op_skip (w' := w9.setCell ⟨b, 0, none⟩ (.slice A9 (n + x) c9)) rfl (by go_simp) ⟨trivial, ?_⟩
          simp only [Act.put]
          show wpList _ _ _ _ _ _
          have HT9 := Lib.hid (HTA.out.step hw9 ho9 hl9)
          obtain ⟨w10, hw10⟩ : ∃ w10, w9.setCell ⟨b, 0, none⟩ (.slice A9 (n + x) c9) = w10 := ⟨_, rfl⟩
          rw [hw10] at HT9
          try rw [hw10]
          clear hw9 ho9 hl9 hrun q2 q3 q4 q5 hm6 HAP HBT 
          go_wp2_with fail
          go_meet
          exact ⟨A9, c9, HT9⟩
      case rest =>
        obtain ⟨A9, c9, HT9⟩ := hcut
        clear HTA HBT HAP d0
        rw [show hb x (cd fixA 256) = code fixA 256 from by unfold code; rw [HXL.out], List.append_assoc] at HT9
        have d0 := HT9.out.wt.is.cell 0 rfl
        have HPP : Hid (TokPost2 w (nb 3 3 ++ (Xi ++ code fixA 256)) (.returned (.slice A9 (n + x) c9)) wc) := Lib.hid ⟨A9, c9, n + x, rfl, HT9.out.wt.len, HT9.out.wt.row, fun j hj => by have h1 := HT9.out.bn; have h2 := HT9.out.an j hj; omega, HT9.out.only⟩
        clear HT9
        go_wp2
        go_ret
        exact HPP.out
theorem dtokens (AT : Option Addr) (nT cT : Nat) (ts : List Tk) (X : List UInt8) (w : World) (h : See w w.heap.size AT (tks ts)) (hn : ts.length = nT) (h60 : nT ≤ 60) (he : EncIs ts X) (hX : X.length ≤ 100000) :
    Calls Tryz.prog 38 #[.slice AT nT cT] w (TokPost w (nb 3 3 ++ (X ++ code fixA 256))) :=
  (dtokens2 AT nT cT ts X w h hn h60 he hX).mono fun _ _ ⟨A, c, n, h1, h2, h3, _, h5⟩ => ⟨A, c, n, h1, h2, h3.see, h5⟩
end Go.Proofs.YtjlkjebmilfgoaaGreat
