/- Layer 4: the document's long numbers: digits, product, order. -/
import Derived.Test.YtohocbfmjcfdgaaDoorHex
import Derived.Test.YtohocbfmjcfdgaaDoorRoots
namespace Go.Proofs.YtohocbfmjcfdgaaDoor
open Go.RowKit

def digs (l : List Nat) : List Value := l.map fun x => .int .u64 (x : Nat)
theorem digs_length (l : List Nat) : (digs l).length = l.length := List.length_map ..
theorem digs_one (l : List Nat) : ∀ v ∈ digs l, v.oneCell' = true := by simp [digs, Value.oneCell']
theorem digs_at (l : List Nat) (i : Nat) (h : i < l.length) : (digs l)[i]? = some (.int .u64 (l.getD i 0 : Nat)) := by
  simp [digs, h]
theorem digs_set (l : List Nat) (i y : Nat) : (digs l).set i (.int .u64 (y : Nat)) = digs (l.set i y) := by
  simp [digs, List.map_set]
theorem info24 : (Tryd.prog.info? 24).map (fun i => (i.zero, i.size, i.bytes)) = some (some (.int .u64 0), 1, 8) := by kernel_rfl
theorem made_is {e : TypeId} {w wx : World} {n : Nat} {vs : List Value} (h : Is wx w.heap.size e vs) (o : Only (fun _ => False) w wx) (hn : vs.length = n) (hm : n ≤ maxLen) : Made e w (some ⟨w.heap.size, 0, none⟩) n n vs wx :=
  ⟨Row.of_is h hn hm, o, by rintro j ⟨ad, e, rfl⟩; obtain rfl := Option.some.inj e; exact Nat.le_refl _⟩
/-- make: a row of zeros. -/
theorem run_make_row {P : Program} {t e : TypeId} {kd : IntKind} {B : Nat} (ht : P.underlying t = some (.slice e)) (hi : (P.info? e).map (fun i => (i.zero, i.size, i.bytes)) = some (some (.int kd 0), 1, B)) (hB : B ≤ 8) (k : Nat) (hk : k ≤ 1073741824) (w : World) :
    (Instr.makeSlice t (.int .i64 k) (.int .i64 k)).run P w = .ok (.slice (some ⟨w.heap.size, 0, none⟩) k k) (w.alloc (.cells (List.replicate k (.int kd 0)).toArray e)) := by
  obtain ⟨i, hi, hz, hsz, hby⟩ := info_parts hi
  have hfit : B * k ≤ 8 * k := Nat.mul_le_mul_right _ hB
  have h := run_make (P := P) w t e i (.int kd 0) ht hi hz .i64 .i64 k k (by omega) (by omega) (by rw [hby]; omega) (by omega)
  have e1 : madeCells (Value.int kd 0).cells (k * 1) = (List.replicate k (Value.int kd 0)).toArray := by
    apply Array.ext'
    rw [Value.cells, toList_madeCells_one]
    · simp
    all_goals intros; simp_all
  rw [Int.toNat_natCast, hsz, e1] at h
  exact h

theorem Made.set {w wx : World} {g N c : Nat} {l : List Nat} (h : Made 24 w (some ⟨g, 0, none⟩) N c (digs l) wx) (p y : Nat) : Made 24 w (some ⟨g, 0, none⟩) N c (digs (l.set p y)) (wx.setCell ⟨g, p, none⟩ (.int .u64 (y : Nat))) := by
  refine ⟨?_, h.2.1.set (p := ⟨g, p, none⟩) (.inr (h.2.2 g ⟨_, rfl, rfl⟩)) _, h.2.2⟩
  rw [← digs_set]
  exact h.1.set p _
/-- A number handed back by its digits. -/
def NumPost (w : World) (v len : Nat) (e : Ending) (w' : World) : Prop := ∃ (A : Option Addr) (c : Nat) (l : List Nat), e = .returned (.slice A len c) ∧ Made 24 w A len c (digs l) w' ∧ Small l ∧ val l = v

theorem rdigits (n : Nat) (w : World) (h : n < 18446744073709551616) : Calls Tryd.prog 20 #[.int .u64 n] w (NumPost w n 4) := by
  go_enter Tryd.func20, Tryd.ntmps20
  go_wp2
  go_ret
  have hi : Is (w.alloc (.cells (digs (digitsOf n)).toArray 24)) w.heap.size 24 (digs (digitsOf n)) := Is.new w 24 _
  have e : digs (digitsOf n) = [.int .u64 ((n : Int) % 65536), .int .u64 ((n : Int) / 65536 % 65536), .int .u64 ((n : Int) / 4294967296 % 65536), .int .u64 ((n : Int) / 281474976710656)] := by
    simp [digs, digitsOf]
  refine ⟨_, _, digitsOf n, rfl, made_is ?_ ((Only.refl _ w).alloc _) rfl (by unfold maxLen; omega), digitsOf_small n h, digitsOf_val n⟩
  rw [e] at hi
  exact hi

set_option maxHeartbeats 2000000 in
theorem rtimes (A1 A2 : Option Addr) (n1 n2 c1 c2 : Nat) (a b : List Nat) (w : World) (h1 : Row 24 w A1 n1 c1 (digs a)) (h2 : Row 24 w A2 n2 c2 (digs b)) (ha : Small a) (hb : Small b) (b1 : n1 ≤ 1000) (b2 : n2 ≤ 1000) :
    Calls Tryd.prog 21 #[.slice A1 n1 c1, .slice A2 n2 c2] w (NumPost w (val a * val b) (n1 + n2 + 1)) := by
  have hal : a.length = n1 := by rw [← h1.len, digs_length]
  have hbl : b.length = n2 := by rw [← h2.len, digs_length]
  obtain ⟨N, hN⟩ : ∃ N, n1 + n2 + 1 = N := ⟨_, rfl⟩
  have eN : (n1 : Int) + (n2 : Int) + 1 = (N : Int) := by omega
  have hmk : ∀ W, (Instr.makeSlice 37 (.int .i64 N) (.int .i64 N)).run Tryd.prog W = .ok (.slice (some ⟨W.heap.size, 0, none⟩) N N) (W.alloc (.cells (List.replicate N (.int .u64 0)).toArray 24)) :=
    fun W => run_make_row Tryd.underlying37 info24 (by omega) N (by omega) W
  obtain ⟨Z, hZ⟩ : ∃ Z, (List.replicate N (Value.int .u64 0)).toArray = Z := ⟨_, rfl⟩
  rw [hZ] at hmk
  have hM : Made 24 w (some ⟨w.heap.size, 0, none⟩) N N (digs (List.replicate N 0)) (w.alloc (.cells Z 24)) := by
    have e : digs (List.replicate N 0) = List.replicate N (.int .u64 0) := by simp [digs]
    rw [e]
    refine made_is ?_ ((Only.refl _ w).alloc _) (by simp) (by unfold maxLen; omega)
    rw [← hZ]
    exact Is.new w 24 _
  have HM := Lib.hid hM
  have H1 := Lib.hid h1
  have H2 := Lib.hid h2
  have HN := Lib.hid hN
  rw [hN]
  clear hM h1 h2 hZ hN
  go_enter Tryd.func21, Tryd.ntmps21
  go_wp2_with fail
  obtain ⟨g, hg⟩ : ∃ g, w.heap.size = g := ⟨_, rfl⟩
  obtain ⟨wa, hwa⟩ : ∃ wa, w.alloc (.cells Z 24) = wa := ⟨_, rfl⟩
  rw [hwa, hg] at HM
  rw [hwa, hg]
  have HG := Lib.hid hg
  clear hmk hwa hg
  go_loopg [6] n1 (fun gk vi wx => ∃ (i : Nat) (l : List Nat), vi = .int .i64 i ∧ i + gk ≤ n1 ∧ n1 ≤ i + gk ∧ Made 24 w (some ⟨g, 0, none⟩) N N (digs l) wx ∧ Small l ∧ val l = val (a.take i) * val b)
  case atStart => exact ⟨0, List.replicate N 0, rfl, by omega, by omega, HM.out, by intro x hx; rw [List.eq_of_mem_replicate hx]; decide, by rw [val_zeros]; simp [val]⟩
  case round =>
    obtain ⟨i, l, rfl, hk, hk2, hM, hS, hV⟩ := hrel
    clear HM
    have HM := Lib.hid hM
    have HV := Lib.hid hV
    clear hM hV
    by_cases hlt : i < n1
    · have d1 : decide ((i : Int) < (n1 : Int)) = true := by simp; omega
      go_wp2_with fail
      go_loopg [7, 8] (n2 + 1) (fun gj vc vk wx => ∃ (k c : Nat) (l : List Nat), vc = .int .u64 c ∧ vk = .int .i64 k ∧ k + gj ≤ n2 + 1 ∧ n2 + 1 ≤ k + gj ∧ Made 24 w (some ⟨g, 0, none⟩) N N (digs l) wx ∧ Small l ∧ c < 65536 ∧ (k ≤ n2 ∨ c = 0) ∧ val l + c * 65536 ^ (i + k) = val (a.take i) * val b + a.getD i 0 * val (b.take k) * 65536 ^ i)
      case atStart => exact ⟨0, 0, l, rfl, rfl, by omega, by omega, HM.out, hS, by omega, .inl (by omega), by simp [val, HV.out]⟩
      case round =>
        obtain ⟨k, c, l, rfl, rfl, hj, hj2, hM, hS, hc, hkc, hV⟩ := hrel
        clear HM HV
        have hll : l.length = N := by rw [← hM.1.len, digs_length]
        have hai := ha.at i
        by_cases hkl : k < n2
        · have t1 : decide ((k : Int) < (n2 : Int)) = true := by simp; omega
          obtain ⟨p, hp⟩ : ∃ p, i + k = p := ⟨_, rfl⟩
          have hst := times_step l i k (a.getD i 0) (b.getD k 0) c (val (b.take k)) (val (a.take i) * val b) (by omega) hV
          rw [hp] at hst
          have hpN : p < N := by have := HN.out; omega
          obtain ⟨g', e1, f1, f2⟩ := hM.1.cell (digs_at l p (by omega))
          simp only [Option.some.injEq, Addr.mk.injEq, and_true] at e1
          subst e1
          obtain ⟨ga, rfl, f3, _⟩ := (H1.out.only hM.2.1 (fun _ _ f => f)).cell (digs_at a i (by omega))
          obtain ⟨gb, rfl, f4, _⟩ := (H2.out.only hM.2.1 (fun _ _ f => f)).cell (digs_at b k (by omega))
          have hvm := val_more b k (by omega)
          rw [← hvm] at hst
          have hol := hS.at p
          have hbk := hb.at k
          have hPl : a.getD i 0 * b.getD k 0 ≤ 65535 * 65535 := Nat.mul_le_mul (by omega) (by omega)
          obtain ⟨o, ho⟩ : ∃ o, l.getD p 0 = o := ⟨_, rfl⟩
          obtain ⟨ai, hae⟩ : ∃ ai, a.getD i 0 = ai := ⟨_, rfl⟩
          obtain ⟨dk, hdk⟩ : ∃ dk, b.getD k 0 = dk := ⟨_, rfl⟩
          rw [ho] at hst hol f1
          rw [hae] at hst hPl f3 hai
          rw [hdk] at hst hPl f4 hbk
          obtain ⟨P, hP⟩ : ∃ P, ai * dk = P := ⟨_, rfl⟩
          have eP : (ai : Int) * (dk : Int) = (P : Int) := by rw [← hP]; simp
          rw [hP] at hst hPl
          obtain ⟨X, hX⟩ : ∃ X, o + P + c = X := ⟨_, rfl⟩
          have eX : (o : Int) + (P : Int) + (c : Int) = (X : Int) := by omega
          rw [hX] at hst
          have hXl : X < 4294967296 := by omega
          have ep : (i : Int) + (k : Int) = (p : Int) := by omega
          have HST := Lib.hid hst
          have HM := Lib.hid hM
          have HP := Lib.hid hp
          have HAE := Lib.hid hae
          clear hst hM hV hvm ho hae hdk hP hX hp hll
          go_wp2_with fail
          go_quiet (fail)
          go_wp2_with fail
          go_roundg (gk - 1)
          case measure => omega
          case rel =>
            have hp := HP.out
            refine ⟨k + 1, X / 65536, l.set p (X % 65536), by simp, by go_num, by omega, by omega, (HM.out.drewN nq).set p (X % 65536), hS.set p _ (Nat.mod_lt _ (by decide)), by omega, .inl (by omega), ?_⟩
            rw [show i + (k + 1) = p + 1 from by omega, HAE.out]
            exact HST.out
        · have t1 : decide ((k : Int) < (n2 : Int)) = false := by simp; omega
          have htk : b.take k = b := List.take_of_length_le (by omega)
          by_cases hc0 : c = 0
          · subst hc0
            have hdn := times_done a b l i (by omega) (by rw [htk] at hV; simpa using hV)
            have HM := Lib.hid hM
            have HDN := Lib.hid hdn
            clear hM hV hdn htk hkc
            go_wp2_with fail
            go_roundg (n1 - (i + 1))
            case measure => omega
            case rel => exact ⟨i + 1, l, by go_num, by omega, by omega, HM.out, hS, HDN.out⟩
          · obtain rfl : k = n2 := by omega
            have t2 : (0 : Int) < (c : Int) := by omega
            have hlast := times_last a b l i c ha hb (by omega) (by rw [htk, ← hbl] at hV; exact hV)
            rw [hbl] at hlast
            obtain ⟨p, hp⟩ : ∃ p, i + k = p := ⟨_, rfl⟩
            have hst := times_step l i k (a.getD i 0) 0 c (val (b.take k)) (val (a.take i) * val b) (by omega) hV
            rw [hp, Nat.zero_mul, Nat.add_zero, Nat.mul_zero, Nat.add_zero] at hst
            have hpN : p < N := by have := HN.out; omega
            obtain ⟨g', e1, f1, f2⟩ := hM.1.cell (digs_at l p (by omega))
            simp only [Option.some.injEq, Addr.mk.injEq, and_true] at e1
            subst e1
            obtain ⟨ga, rfl, f3, _⟩ := (H1.out.only hM.2.1 (fun _ _ f => f)).cell (digs_at a i (by omega))
            rw [hp] at hlast
            obtain ⟨o, ho⟩ : ∃ o, l.getD p 0 = o := ⟨_, rfl⟩
            obtain ⟨ai, hae⟩ : ∃ ai, a.getD i 0 = ai := ⟨_, rfl⟩
            rw [ho] at hst hlast f1
            rw [hae] at hst f3 hai
            obtain ⟨X, hX⟩ : ∃ X, o + c = X := ⟨_, rfl⟩
            have eX : (o : Int) + (c : Int) = (X : Int) := by omega
            rw [hX] at hst hlast
            have ep : (i : Int) + (k : Int) = (p : Int) := by omega
            have HST := Lib.hid hst
            have HM := Lib.hid hM
            have HP := Lib.hid hp
            have HAE := Lib.hid hae
            have HTK := Lib.hid htk
            have hol : o < 65536 := by omega
            clear hst hM hV ho hae hX hp hll htk
            go_wp2_with fail
            go_quiet (fail)
            go_wp2_with fail
            go_roundg (gk - 1)
            case measure => omega
            case rel =>
              have hp := HP.out
              refine ⟨k + 1, X / 65536, l.set p (X % 65536), by simp, by go_num, by omega, by omega, (HM.out.drewN nq).set p (X % 65536), hS.set p _ (Nat.mod_lt _ (by decide)), by omega, .inr (by omega), ?_⟩
              have h2 := HST.out
              rw [Nat.add_zero, HTK.out] at h2
              rw [show i + (k + 1) = p + 1 from by omega, HAE.out, List.take_of_length_le (by omega : b.length ≤ k + 1)]
              exact h2
    · obtain rfl : i = n1 := by omega
      have hta : a.take i = a := List.take_of_length_le (by omega)
      rw [hta] at HV
      go_wp2
      go_ret
      exact ⟨_, _, l, rfl, HM.out, hS, HV.out⟩

/-- At most: by the numbers. -/
def MostPost (w : World) (a b : List Nat) (e : Ending) (w' : World) : Prop := e = .returned (.bool (decide (val a ≤ val b))) ∧ w = w'

set_option maxHeartbeats 2000000 in
theorem ratMost (A1 A2 : Option Addr) (n1 n2 c1 c2 : Nat) (a b : List Nat) (w : World) (h1 : Row 24 w A1 n1 c1 (digs a)) (h2 : Row 24 w A2 n2 c2 (digs b)) (ha : Small a) (hb : Small b) (b1 : n1 ≤ 10000) (b2 : n2 ≤ 10000) :
    Calls Tryd.prog 22 #[.slice A1 n1 c1, .slice A2 n2 c2] w (MostPost w a b) := by
  have hal : a.length = n1 := by rw [← h1.len, digs_length]
  have hbl : b.length = n2 := by rw [← h2.len, digs_length]
  obtain ⟨N, hN⟩ : ∃ N, n1 + n2 = N := ⟨_, rfl⟩
  have eN : (n1 : Int) + (n2 : Int) = (N : Int) := by omega
  have hNl : N ≤ 20000 := by omega
  have H1 := Lib.hid h1
  have H2 := Lib.hid h2
  have HN := Lib.hid hN
  clear h1 h2 hN
  go_enter Tryd.func22, Tryd.ntmps22
  go_wp2_with fail
  go_loopg [5] (N + 1) (fun gk vi wx => ∃ z : Int, vi = .int .i64 z ∧ z + 1 = (gk : Int) ∧ gk ≤ N + 1 ∧ val (a.drop gk) = val (b.drop gk) ∧ wx = w)
  case atStart => exact ⟨N, rfl, by omega, by omega, by rw [List.drop_eq_nil_of_le (by have := HN.out; omega), List.drop_eq_nil_of_le (by have := HN.out; omega)], rfl⟩
  case round =>
    obtain ⟨z, rfl, hz, hgk, hV, rfl⟩ := hrel
    by_cases hlt : 0 < gk
    · obtain ⟨i, rfl⟩ : ∃ i, gk = i + 1 := ⟨gk - 1, by omega⟩
      obtain rfl : z = (i : Int) := by omega
      have va := val_drop a i
      have vb := val_drop b i
      have less := less_of_top a b ha i
      have more := less_of_top b a hb i
      by_cases hA : i < n1
      · by_cases hB : i < n2
        · obtain ⟨ga, rfl, f3, _⟩ := H1.out.cell (digs_at a i (by omega))
          obtain ⟨gb, rfl, f4, _⟩ := H2.out.cell (digs_at b i (by omega))
          have hxl := ha.at i
          obtain ⟨x, hx⟩ : ∃ x, a.getD i 0 = x := ⟨_, rfl⟩
          rw [hx] at f3 va hxl
          clear hx
          have hyl := hb.at i
          obtain ⟨y, hy⟩ : ∃ y, b.getD i 0 = y := ⟨_, rfl⟩
          rw [hy] at f4 vb hyl
          clear hy
          rw [hV] at va
          rcases Nat.lt_trichotomy x y with hl | rfl | hl
          · have hle : decide (val a ≤ val b) = true := by
              have := less (by omega)
              simp
              omega
            have HLE := Lib.hid hle
            clear va vb less more hV hle
            go_wp2
            go_ret
            exact ⟨by rw [HLE.out]; simp; try omega, rfl⟩
          · have HV := Lib.hid (va.trans vb.symm)
            clear va vb less more hV
            go_wp2_with fail
            go_roundg i
            case measure => omega
            case rel => exact ⟨(i : Int) - 1, by go_num, by omega, by omega, HV.out, rfl⟩
          · have hle : decide (val a ≤ val b) = false := by
              have := more (by omega)
              simp
              omega
            have HLE := Lib.hid hle
            clear va vb less more hV hle
            go_wp2
            go_ret
            exact ⟨by rw [HLE.out]; simp; try omega, rfl⟩
        · obtain ⟨ga, rfl, f3, _⟩ := H1.out.cell (digs_at a i (by omega))
          have hy0 : b.getD i 0 = 0 := by rw [List.getD_eq_getElem?_getD, List.getElem?_eq_none (by omega)]; rfl
          have hxl := ha.at i
          obtain ⟨x, hx⟩ : ∃ x, a.getD i 0 = x := ⟨_, rfl⟩
          rw [hx] at f3 va hxl
          clear hx
          rw [hy0] at vb
          clear hy0
          rw [hV] at va
          rcases Nat.eq_zero_or_pos x with rfl | hl
          · have HV := Lib.hid (va.trans vb.symm)
            clear va vb less more hV
            go_wp2_with fail
            go_roundg i
            case measure => omega
            case rel => exact ⟨(i : Int) - 1, by go_num, by omega, by omega, HV.out, rfl⟩
          · have hle : decide (val a ≤ val b) = false := by
              have := more (by omega)
              simp
              omega
            have HLE := Lib.hid hle
            clear va vb less more hV hle
            go_wp2
            go_ret
            exact ⟨by rw [HLE.out]; simp; try omega, rfl⟩
      · by_cases hB : i < n2
        · have hx0 : a.getD i 0 = 0 := by rw [List.getD_eq_getElem?_getD, List.getElem?_eq_none (by omega)]; rfl
          obtain ⟨gb, rfl, f4, _⟩ := H2.out.cell (digs_at b i (by omega))
          rw [hx0] at va
          clear hx0
          have hyl := hb.at i
          obtain ⟨y, hy⟩ : ∃ y, b.getD i 0 = y := ⟨_, rfl⟩
          rw [hy] at f4 vb hyl
          clear hy
          rw [hV] at va
          rcases Nat.eq_zero_or_pos y with rfl | hl
          · have HV := Lib.hid (va.trans vb.symm)
            clear va vb less more hV
            go_wp2_with fail
            go_roundg i
            case measure => omega
            case rel => exact ⟨(i : Int) - 1, by go_num, by omega, by omega, HV.out, rfl⟩
          · have hle : decide (val a ≤ val b) = true := by
              have := less (by omega)
              simp
              omega
            have HLE := Lib.hid hle
            clear va vb less more hV hle
            go_wp2
            go_ret
            exact ⟨by rw [HLE.out]; simp; try omega, rfl⟩
        · have hx0 : a.getD i 0 = 0 := by rw [List.getD_eq_getElem?_getD, List.getElem?_eq_none (by omega)]; rfl
          have hy0 : b.getD i 0 = 0 := by rw [List.getD_eq_getElem?_getD, List.getElem?_eq_none (by omega)]; rfl
          rw [hx0] at va
          clear hx0
          rw [hy0] at vb
          clear hy0
          rw [hV] at va
          have HV := Lib.hid (va.trans vb.symm)
          clear va vb less more hV
          go_wp2_with fail
          go_roundg i
          case measure => omega
          case rel => exact ⟨(i : Int) - 1, by go_num, by omega, by omega, HV.out, rfl⟩
    · obtain rfl : gk = 0 := by omega
      obtain rfl : z = -1 := by omega
      have hle : decide (val a ≤ val b) = true := by
        simp only [List.drop_zero] at hV
        rw [hV]
        simp
      have HLE := Lib.hid hle
      clear hV hle
      go_wp2
      go_ret
      exact ⟨by rw [HLE.out]; rfl, rfl⟩
end Go.Proofs.YtohocbfmjcfdgaaDoor
