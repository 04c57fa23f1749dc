/- BitsBack of layer 1: numbers that are put are read again. -/
import Derived.Test.YthocfdkheikeoaaDeeds
import Derived.Deep.RegionHeld3
namespace Go.Proofs.Ythocfdkheikeoaa.Back
open Go.RowKit

/-- How many bits deeds put, and their number. -/
def tot : List Dd → Nat
  | [] => 0
  | d :: r => clamp d.n + tot r
def num : List Dd → Nat
  | [] => 0
  | d :: r => d.v % 2 ^ clamp d.n + 2 ^ clamp d.n * num r

theorem tot_snoc : ∀ (a : List Dd) (d : Dd), tot (a ++ [d]) = tot a + clamp d.n
  | [], d => by simp [tot]
  | x :: a, d => by simp [tot, tot_snoc a d, Nat.add_assoc]
theorem num_snoc : ∀ (a : List Dd) (d : Dd), num (a ++ [d]) = num a + d.v % 2 ^ clamp d.n * 2 ^ tot a
  | [], d => by simp [num, tot]
  | x :: a, d => by
    simp only [List.cons_append, num, num_snoc a d, tot, Nat.mul_add, Nat.pow_add, Nat.add_assoc]
    congr 2
    rw [← Nat.mul_assoc, ← Nat.mul_assoc, Nat.mul_comm (2 ^ clamp x.n)]
theorem tot_le : ∀ a : List Dd, tot a ≤ 32 * a.length
  | [] => by simp [tot]
  | x :: a => by have := tot_le a; have := clamp_le x.n; simp [tot]; omega
/-- What stands behind a first part. -/
theorem num_read : ∀ (a : List Dd) (d : Dd) (r : List Dd), num (a ++ d :: r) / 2 ^ tot a % 2 ^ clamp d.n = d.v % 2 ^ clamp d.n
  | [], d, r => by simp [num, tot]
  | x :: a, d, r => by
    have hx : x.v % 2 ^ clamp x.n < 2 ^ clamp x.n := Nat.mod_lt _ (Nat.pow_pos (by decide))
    have := num_read a d r
    simp only [List.cons_append, num, tot, Nat.pow_add, ← Nat.div_div_eq_div_mul]
    rw [Nat.add_mul_div_left _ _ (Nat.pow_pos (by decide)), Nat.div_eq_of_lt hx, Nat.zero_add]
    exact this

theorem clamp_clamp (m : Int) : clamp (min (max m 0) 32) = clamp m := by unfold clamp; omega
theorem _root_.Go.Proofs.Ythocfdkheikeoaa.Wrt.alloc {w : World} {b : Nat} {A : Option Addr} {n c k : Nat} {l : List UInt8} (h : Wrt w b A n c k l) (o : Obj) : Wrt (w.alloc o) b A n c k l :=
  ⟨⟨h.wr.1.alloc o, h.wr.2.alloc o⟩, h.len, h.lt⟩
theorem take_snoc (ds : List Dd) (k : Nat) (d : Dd) (h : ds[k]? = some d) : ds.take (k + 1) = ds.take k ++ [d] := by rw [List.take_add_one, h]; rfl

/-- A deed is put: a writer whose number is that of the deeds ahead of it. -/
def Puts (b B : Nat) (ds : List Dd) (k : Nat) (w0 : World) (wx : World) : Prop :=
  ∃ (A' : Option Addr) (n' c' : Nat) (l : List UInt8), Wrt wx b A' n' c' (tot (ds.take k)) l ∧ le l = num (ds.take k) ∧ Below B w0 wx ∧ ∀ j, Lies A' j → B ≤ j

theorem put_deed (b B k : Nat) (ds : List Dd) (d : Dd) (w0 w : World) (h : Puts b B ds k w0 w) (hd : ds[k]? = some d) (hv : d.v < 4294967296) (hk : k ≤ 60) (hb : B ≤ b) (hB : B ≤ w.heap.size) :
    Calls Try.prog 20 #[.pointer (some ⟨b, 0, none⟩), .int .u32 d.v, .int .i64 (min (max d.n 0) 32)] w fun e w' => e = .returned (.tuple #[]) ∧ Puts b B ds (k + 1) w0 w' := by
  obtain ⟨A, n, c, l, h1, h2, h3, h4⟩ := h
  have hk2 : tot (ds.take k) ≤ 1920 := by
    have := tot_le (ds.take k)
    have := List.length_take_le k ds
    omega
  refine (put b A n c (tot (ds.take k)) d.v (min (max d.n 0) 32) l w h1 (by omega) hv).mono ?_
  rw [clamp_clamp]
  rintro e w' ⟨rfl, A', n', c', l', k1, k2, k3, k4, k5⟩
  refine ⟨rfl, A', n', c', l', ⟨?_, ?_, ?_⟩, ?_, below_only h3 k4 hB ?_, ?_⟩
  · rw [take_snoc ds k d hd, tot_snoc]; exact k1
  · rw [take_snoc ds k d hd, tot_snoc]; exact k2
  · rw [take_snoc ds k d hd, tot_snoc, k3]
    exact put_lt _ _ _ _ h1.lt (Nat.mod_lt _ (Nat.pow_pos (by decide)))
  · rw [take_snoc ds k d hd, num_snoc, k3, h2]
  · rintro j (rfl | hj)
    · exact hb
    · exact h4 j hj
  · intro j hj
    rcases k5 with e | ⟨g, e, hg⟩
    · exact h4 j (e ▸ hj)
    · obtain ⟨ad, e1, e2⟩ := hj
      rw [e] at e1
      obtain rfl := Option.some.inj e1
      have : g = j := e2
      omega

theorem tot_take (ds : List Dd) (k : Nat) (d : Dd) (h : ds[k]? = some d) : tot (ds.take k) + clamp d.n ≤ tot ds := by
  have e : ds = ds.take k ++ d :: ds.drop (k + 1) := by
    have hk : k < ds.length := by
      rcases Nat.lt_or_ge k ds.length with hh | hh
      · exact hh
      · rw [List.getElem?_eq_none hh] at h; cases h
    have hg : ds[k] = d := by simpa [hk] using h
    rw [← hg, List.getElem_cons_drop hk, List.take_append_drop]
  have app : ∀ a b : List Dd, tot (a ++ b) = tot a + tot b := by
    intro a b
    induction a with
    | nil => simp [tot]
    | cons x a ih => simp [tot, ih, Nat.add_assoc]
  have : tot ds = tot (ds.take k) + (clamp d.n + tot (ds.drop (k + 1))) := by
    conv => lhs; rw [e]
    rw [app]; rfl
  omega
theorem num_take (ds : List Dd) (k : Nat) (d : Dd) (h : ds[k]? = some d) : num ds / 2 ^ tot (ds.take k) % 2 ^ clamp d.n = d.v % 2 ^ clamp d.n := by
  have hk : k < ds.length := by
    rcases Nat.lt_or_ge k ds.length with hh | hh
    · exact hh
    · rw [List.getElem?_eq_none hh] at h; cases h
  have hg : ds[k] = d := by simpa [hk] using h
  have e : ds.take k ++ d :: ds.drop (k + 1) = ds := by rw [← hg, List.getElem_cons_drop hk, List.take_append_drop]
  have := num_read (ds.take k) d (ds.drop (k + 1))
  rw [e] at this
  exact this

/-- The law's own test, as the walk writes it. -/
theorem back_test (v m : Nat) (hv : v < 4294967296) (hm : m ≤ 32) :
    (IntKind.u64.wrap ((v : Int) % 2 ^ m) != bits BinOp.and IntKind.u64 (IntKind.u64.wrap (v : Int)) (IntKind.u64.wrap (IntKind.u64.wrap (2 ^ m) - 1))) = false := by
  have h1 : v % 2 ^ m ≤ v := Nat.mod_le _ _
  rw [IntWalk.u64_in (v : Int) (by omega), low_eq v m (by omega) hm, show ((v : Int) % 2 ^ m) = ((v % 2 ^ m : Nat) : Int) from by simp, IntWalk.u64_in _ (by omega)]
  simp

/-- A deed is read again. -/
theorem read_deed (rb : Nat) (ds : List Dd) (k : Nat) (d : Dd) (l : List UInt8) (w : World) (h : Rd w rb ⟨l.toArray⟩ (tot (ds.take k)) false) (hd : ds[k]? = some d) (hl : le l = num ds) (hn : l.length = (tot ds + 7) / 8) (hk : ds.length ≤ 60) :
    Calls Try.prog 10 #[.pointer (some ⟨rb, 0, none⟩), .int .i64 (clamp d.n : Int)] w fun e w' => e = .returned (.int .u32 (d.v % 2 ^ clamp d.n : Nat)) ∧ Rd w' rb ⟨l.toArray⟩ (tot (ds.take (k + 1))) false ∧ Only (· = rb) w w' := by
  have h1 := tot_take ds k d hd
  have h2 := clamp_le d.n
  have h3 := tot_le ds
  have hz : (⟨l.toArray⟩ : ByteArray).size = l.length := by simp [ByteArray.size]
  have hr : rBits ⟨l.toArray⟩ (tot (ds.take k)) false (clamp d.n : Int) = (d.v % 2 ^ clamp d.n, tot (ds.take (k + 1)), false) := by
    unfold rBits
    rw [if_neg]
    · simp only [Int.toNat_natCast, hl, num_take ds k d hd, take_snoc ds k d hd, tot_snoc]
    · simp only [short, hz, Bool.false_or, Bool.or_eq_true, decide_eq_true_eq, not_or]
      omega
  have := rbits rb ⟨l.toArray⟩ (tot (ds.take k)) false (clamp d.n : Int) w h (by rw [hz]; omega) (by rw [hz]; omega)
  rw [hr] at this
  exact this

set_option maxHeartbeats 4000000 in
theorem walk (A : Option Addr) (n c : Nat) (ds : List Dd) (w : World) (hD : Deeds w w.heap.size A n ds) (hn : n ≤ maxLen) :
    Calls Try.prog 5 #[.slice A n c] w fun e w' => e = .returned (.bool true) ∧ Below w.heap.size w w' := by
  unfold maxLen at hn
  have HD := Lib.hid hD
  clear hD
  by_cases h60 : 60 < n
  · go_enter Try.func5, Try.ntmps5
    go_wp2_with (go_at_call 7; refine (awake _).mono ?_; rintro e w1 ⟨rfl, hb⟩; have HB := Lib.hid hb; clear hb)
    go_ret
    exact ⟨rfl, HB.out⟩
  · go_enter Try.func5, Try.ntmps5
    go_wp2_with fail
    refine (awake _).mono ?_
    rintro e w1 ⟨rfl, hb⟩
    have HB := Lib.hid hb
    clear hb
    go_wp2_with fail
    refine (newWriter w1).mono ?_
    rintro e w2 ⟨rfl, hw2⟩
    have HI2 : Hid (Wrt w2 w1.heap.size none 0 0 0 []) := by
      subst hw2
      exact ⟨⟨Is.new w1 56 _, Row.nil 5 _⟩, rfl, by decide⟩
    have HB2 : Hid (Below w.heap.size w w2) := by subst hw2; exact HB.out.alloc HB.out.size _
    have hs2 : w.heap.size ≤ w1.heap.size := HB.out.size
    obtain ⟨b, hb⟩ : ∃ b, w1.heap.size = b := ⟨_, rfl⟩
    rw [hb] at HI2 hs2 ⊢
    clear hw2 hb HB
    go_wp2_with fail
    go_loopg [18] n (fun gk i wx => ∃ k : Nat, i = .int .i64 k ∧ k + gk ≤ n ∧ n ≤ k + gk ∧ Puts b w.heap.size ds k w wx)
    case atStart => exact ⟨0, rfl, by omega, by omega, none, 0, 0, [], HI2.out, rfl, HB2.out, by rintro j ⟨ad, e, _⟩; cases e⟩
    case round =>
      obtain ⟨k, rfl, hk, hk2, hP⟩ := hrel
      have HP := Lib.hid hP
      have hB' : Below w.heap.size w wr := by obtain ⟨_, _, _, _, _, _, h, _⟩ := hP; exact h
      have hsz : w.heap.size ≤ wr.heap.size := hB'.size
      have HB' := Lib.hid hB'
      clear hP hB' HI2 HB2
      by_cases hlt : k < n
      · obtain ⟨d, hd⟩ : ∃ d, ds[k]? = some d := ⟨ds[k]'(by rw [HD.out.1]; exact hlt), by simp [HD.out.1, hlt]⟩
        obtain ⟨h1, h2, h3, ba, off, hA, hba, c0, c1, c2, c3⟩ := (HD.out.below HB'.out).2 k d hd
        have Hd := Lib.hid hd
        subst hA
        clear hd
        go_wp2_with fail
        have hP2 : ∀ o, Puts b w.heap.size ds k w (wr.alloc o) := by
          intro o
          obtain ⟨A', n', c', l, p1, p2, p3, p4⟩ := HP.out
          exact ⟨A', n', c', l, p1.alloc o, p2, p3.alloc hsz o, p4⟩
        refine (put_deed b w.heap.size k ds d w _ (hP2 _) Hd.out h2 (by omega) hs2 (by simp; omega)).mono ?_
        rintro e w3 ⟨rfl, hP3⟩
        have HP3 := Lib.hid hP3
        clear hP3 hP2
        go_wp2
        go_roundg (gk - 1)
        case measure => omega
        case rel => exact ⟨k + 1, by go_num, by omega, by omega, HP3.out⟩
      · obtain ⟨A', n', c', l, hW, hl, _, hA'⟩ := HP.out
        have HW := Lib.hid hW; have HL := Lib.hid hl; have HA' := Lib.hid hA'
        clear HP hW hl hA'
        go_wp2_with fail
        refine (text b A' n' c' _ l wr HW.out.wr).mono ?_
        rintro e w3 ⟨rfl, rfl⟩
        go_wp2_with fail
        refine (newReader _ wr).mono ?_
        rintro e w4 ⟨rfl, hw4⟩
        have HR4 : Hid (Rd w4 wr.heap.size ⟨l.toArray⟩ 0 false) := by subst hw4; exact Is.new wr 53 _
        have HW4 : Hid (Wrt w4 b A' n' c' (tot (ds.take k)) l) := by subst hw4; exact HW.out.alloc _
        have HB4 : Hid (Below w.heap.size w w4) := by subst hw4; exact HB'.out.alloc hsz _
        have hne : b < wr.heap.size := HW.out.wr.1.lt
        obtain ⟨rb, hrb⟩ : ∃ rb, wr.heap.size = rb := ⟨_, rfl⟩
        rw [hrb] at HR4 hsz hne ⊢
        clear hw4 hrb HB' HW
        obtain rfl : k = n := by omega
        have hdl : ds.length = k := HD.out.1
        have htake : ds.take k = ds := List.take_of_length_le (by omega)
        rw [htake] at HW4 HL
        have HDl := Lib.hid hdl
        clear htake hdl
        go_wp2_with fail
        go_loopg [36] k (fun gk i wx => ∃ j : Nat, i = .int .i64 j ∧ j + gk ≤ k ∧ k ≤ j + gk ∧ Rd wx rb ⟨l.toArray⟩ (tot (ds.take j)) false ∧ Wrt wx b A' n' c' (tot ds) l ∧ Below w.heap.size w wx)
        case atStart => exact ⟨0, rfl, by omega, by omega, HR4.out, HW4.out, HB4.out⟩
        case round =>
          obtain ⟨j, rfl, hj, hj2, hR, hW, hB⟩ := hrel
          have HR := Lib.hid hR; have HW := Lib.hid hW; have HB := Lib.hid hB
          have hsr : w.heap.size ≤ wr.heap.size := hB.size
          have hrlt : rb < wr.heap.size := hR.lt
          clear hR hW hB HR4 HW4 HB4
          by_cases hlt : j < k
          · obtain ⟨d, hd⟩ : ∃ d, ds[j]? = some d := ⟨ds[j]'(by rw [HDl.out]; exact hlt), by simp [HDl.out, hlt]⟩
            obtain ⟨h1, h2, h3, ba, off, hA, hba, c0, c1, c2, c3⟩ := (HD.out.below HB.out).2 j d hd
            have hcl := clamp_eq d.n
            have hM := clamp_le d.n
            have Hd := Lib.hid hd
            subst hA
            clear hd
            have hlow := back_test d.v (clamp d.n) h2 hM
            go_upto_region 16 with fail
            obtain ⟨wa, hwa⟩ : ∃ wa, wr.alloc (.cells #[.int .u8 d.k, .int .u32 d.v, .int .i64 d.n, .string d.s] 33) = wa := ⟨_, rfl⟩
            obtain ⟨g, hg⟩ : ∃ g, wr.heap.size = g := ⟨_, rfl⟩
            have hIa : Is wa g 33 [.int .u8 d.k, .int .u32 d.v, .int .i64 d.n, .string d.s] := by rw [← hwa, ← hg]; exact Is.new wr 33 _
            have HRa : Hid (Rd wa rb ⟨l.toArray⟩ (tot (ds.take j)) false) := by rw [← hwa]; exact HR.out.alloc _
            have HWa : Hid (Wrt wa b A' n' c' (tot ds) l) := by rw [← hwa]; exact HW.out.alloc _
            have HBa : Hid (Below w.heap.size w wa) := by rw [← hwa]; exact HB.out.alloc hsr _
            have hga : rb < g := by omega
            have ca := hIa.cell 1 rfl
            have HIa := Lib.hid hIa
            rw [hwa, hg]
            have hnb : b ≠ rb := by omega
            have hrw : w.heap.size ≤ rb := hsz
            clear hwa hg hIa HR HW HB hsr hrlt c0 c1 c2 c3
            have hll : l.length = (tot ds + 7) / 8 := by rw [HWa.out.wr.2.len]; exact HWa.out.len
            have HLL := Lib.hid hll
            clear hll
            go_region_held3 (fun w' => w'.cell? ⟨g, 1, none⟩ = some (.int .u32 d.v)) (first | assumption) (first | (go_at_call 10; refine (read_deed rb ds j d l wa.drew (Is.drew HRa.out) Hd.out HL.out HLL.out (by rw [HDl.out]; omega)).mono ?_; rintro e w5 ⟨rfl, hr5, ho5⟩; have hc5 : w5.cell? ⟨g, 1, none⟩ = some (.int .u32 d.v) := (HIa.out.drew.only ho5 (by omega)).cell 1 rfl; have HR5 := Lib.hid hr5; have HO5 := Lib.hid ho5; clear hr5 ho5))
            go_wp2
            go_roundg (gk - 1)
            case measure => omega
            case rel =>
              have ho : Only (· = rb) wa w5 := ((Only.refl _ wa).drew).trans HO5.out
              refine ⟨j + 1, by go_num, by omega, by omega, HR5.out, ⟨⟨HWa.out.wr.1.only ho hnb, HWa.out.wr.2.only ho ?_⟩, HWa.out.len, HWa.out.lt⟩, below_only HBa.out ho HBa.out.size (by rintro i rfl; exact hrw)⟩
              rintro i hi rfl
              exact HWa.out.wr.2.ne HRa.out (by decide) hi
          · obtain rfl : j = k := by omega
            have HTt : Hid (ds.take j = ds) := List.take_of_length_le (by rw [HDl.out]; exact Nat.le_refl _)
            rw [HTt.out] at HR
            have hll : l.length = (tot ds + 7) / 8 := by rw [HW.out.wr.2.len]; exact HW.out.len
            have hz : (⟨l.toArray⟩ : ByteArray).size = l.length := by simp [ByteArray.size]
            have htl := tot_le ds
            have hdl := HDl.out
            obtain ⟨z, hz1, hz2⟩ : ∃ z : Nat, 8 * (⟨l.toArray⟩ : ByteArray).size - tot ds = z ∧ z < 8 := ⟨_, rfl, by rw [hz, hll]; omega⟩
            have hs1 : (⟨l.toArray⟩ : ByteArray).size ≤ 1073741824 := by rw [hz, hll]; omega
            have hs2 : tot ds ≤ 8 * (⟨l.toArray⟩ : ByteArray).size := by rw [hz, hll]; omega
            have hz3 : decide ((z : Int) < 8) = true := by simp; omega
            have HZ := Lib.hid hz1
            clear hz hll hz1 hdl
            go_wp2_with fail
            refine (err rb _ _ _ wr HR.out).mono ?_
            rintro e w' ⟨rfl, rfl⟩
            have he0 : errOf false = 0 := rfl
            rw [he0]
            clear he0
            go_wp2_with fail
            refine (at_ rb _ _ _ wr HR.out).mono ?_
            rintro e w' ⟨rfl, rfl⟩
            go_wp2_with fail
            refine (len b A' n' c' _ l wr HW.out.wr).mono ?_
            rintro e w' ⟨rfl, rfl⟩
            go_wp2_with fail
            refine (left rb _ _ _ wr HR.out hs1 hs2).mono ?_
            rw [HZ.out]
            rintro e w' ⟨rfl, kk, rfl⟩
            go_wp2
            go_ret
            exact ⟨rfl, ⟨HB.out.os, HB.out.tape, HB.out.output, HB.out.size, HB.out.block⟩⟩
end Go.Proofs.Ythocfdkheikeoaa.Back
