/-
  Part 5 of the texts that the seat's proofs stand on; each part of it begins with its own sentence and conditions. Conditions: those that each theorem names.
-/
import Derived.Test.YtffdmhcbcaemfaaPack4
import Derived.Deep.RegionLaw

/-
  The law ShamirSums, walked, under what layer 5's functions are to do. Conditions: none.
-/
namespace Go.Proofs.Ytffdmhcbcaemfaa
open Go.RowKit
open Pol (co Sm ev px py Apart)

theorem cnum_nat (la d : Nat) (h1 : la ≤ 4096) (h2 : d ≤ 4095) : cnum (la : Int) ((d : Int) + 1) = ((la * d : Nat) : Int) := by
  unfold cnum
  by_cases h : (la : Int) < 1 ∨ (d : Int) + 1 < 2
  · rw [if_pos (by omega)]
    rcases h with h | h
    · obtain rfl : la = 0 := by omega
      rw [Nat.zero_mul]; rfl
    · obtain rfl : d = 0 := by omega
      rw [Nat.mul_zero]; rfl
  · rw [if_neg (by omega), show (d : Int) + 1 - 1 = (d : Int) from by omega, Int.natCast_mul]
theorem pl_xr (a b x y : List Nat) (d i : Nat) (hx : x.length = a.length * d) (hi : i < a.length) : ∀ t, co (pl (xr a b) (xr x y) d i) t = co (Pol.addP (pl a x d i) (pl b y d i)) t := fun t => by
  rw [Pol.co_addP]
  unfold pl
  cases t with
  | zero => rw [Pol.co_zero, Pol.co_zero, Pol.co_zero, co_xr a b i hi]
  | succ t =>
    rw [Pol.co_succ, Pol.co_succ, Pol.co_succ, co_tab, co_tab, co_tab]
    by_cases h : t < d
    · rw [if_pos h, if_pos h, if_pos h]
      have : i * d + t < x.length := by
        rw [hx]
        have h1 : (i + 1) * d ≤ a.length * d := Nat.mul_le_mul_right d hi
        rw [Nat.succ_mul] at h1
        omega
      rw [co_xr x y _ this]
    · rw [if_neg h, if_neg h, if_neg h]; rfl
theorem shr_xr {a b x y : List Nat} {d who : Nat} (ha : Sm a) (hb : Sm b) (hxs : Sm x) (hys : Sm y) (hab : a.length = b.length) (hx : x.length = a.length * d) (hw : who < 255) : shr (xr a b) (xr x y) d who = xr (shr a x d who) (shr b y d who) := by
  refine Lin.list_ext (by rw [shr_len, xr_len, xr_len, shr_len]) (fun i hi => ?_)
  rw [shr_len, xr_len] at hi
  rw [co_xr _ _ _ (by rw [shr_len]; exact hi)]
  unfold shr
  rw [co_tab, co_tab, co_tab, xr_len, if_pos hi, if_pos hi, if_pos (by omega), Pol.ev_congr _ _ _ (pl_xr a b x y d i hx hi), Pol.ev_addP _ _ _ (pl_sm ha hxs d i) (pl_sm hb hys d i) (by omega)]
/-- s[:h] of bytes. -/
theorem run_to_u8 (A : Option Addr) (len cap h : Nat) (hh : h ≤ cap) (W : World) :
    (Instr.slice 22 (.slice A len cap) none (some (.int .i64 (h : Int))) none).run Try.prog W = .ok (.slice A h cap) W := by
  obtain ⟨i0, hi, hz0, hz1, hz2⟩ := info_parts u8_info
  have he : Try.prog.elem 22 = 5 := by kernel_rfl
  rw [run_slice_h W 22 _ len cap (by rw [he]; exact Try.underlying22) .i64 (h : Int) (by omega) (by omega), he]
  cases A <;> simp [sizeOf, typeInfo, hi, hz1, Result.andThen, sliced, Addr.add]
theorem ok_nat {s c : List Nat} {d n : Nat} (h1 : d + 1 ≤ n) (h2 : n ≤ 200) (h3 : s.length ≤ 4096) (h4 : c.length = s.length * d) : DealOk s c ((d + 1 : Nat) : Int) (n : Int) :=
  ⟨by omega, by omega, by omega, h3, by rw [show ((d + 1 : Nat) : Int) = (d : Int) + 1 from rfl, cnum_nat _ _ h3 (by omega), h4]⟩
/-- What the law asks ahead. -/
def Sums5 (na nb nx ny k n : Nat) (q : Int) : Prop := na ≤ 20 ∧ na = nb ∧ q ≤ (nx : Int) ∧ q ≤ (ny : Int) ∧ k ≤ n

set_option maxHeartbeats 2000000 in
set_option maxRecDepth 100000 in
theorem sums5_big (C : ShamirSaid) (A B X Y : Option Addr) (na nb nx ny ca cb cx cy o m k n : Nat) (q : Int) (w : World) (ho : o < 256) (hm : m < 256) (hna : na ≤ maxLen) (hk : 1 + o % 4 = k) (hn : m % 10 = n) (hq : cnum (na : Int) (k : Int) = q) (h : ¬ Sums5 na nb nx ny k n q) :
    Calls Try.prog 6 #[.slice A na ca, .slice B nb cb, .slice X nx cx, .slice Y ny cy, .int .u8 (o : Int), .int .u8 (m : Int)] w (Holds w) := by
  have HAW := Lib.hid (fun u => awake5 C u)
  have hnaI : (na : Int) ≤ 9223372036854775807 := by unfold maxLen at hna; omega
  have HCO := Lib.hid (fun u => show Calls Try.prog 16 #[.int .i64 (na : Int), .int .i64 (k : Int)] u (Hands (.int .i64 q) u) from hq ▸ C.coins na k u ⟨by omega, by omega⟩ ⟨by omega, by omega⟩)
  have eo : Int.tmod (o : Int) 4 = ((o % 4 : Nat) : Int) := by rw [Int.tmod_eq_emod_of_nonneg (by omega)]; omega
  have em : Int.tmod (m : Int) 10 = (n : Int) := by rw [Int.tmod_eq_emod_of_nonneg (by omega)]; omega
  have ek : IntKind.i64.wrap (1 + ((o % 4 : Nat) : Int)) = (k : Int) := by rw [IntWalk.i64_in _ (by omega)]; omega
  have hoI : (o : Int) < 256 := by omega
  have hmI : (m : Int) < 256 := by omega
  unfold Sums5 at h
  generalize o % 4 = r at *
  clear hq hn hk hna hnaI C
  by_cases g0 : 20 < na
  · have e0 : decide ((20 : Int) < (na : Int)) = true := by simp; omega
    clear h
    go_enter Try.func6, Try.ntmps6
    go_wp2_with fail
    refine (HCO.out w).mono ?_
    rintro e w1 ⟨rfl, q1, rfl⟩
    go_wp2_with fail
    refine (HAW.out (w.drewN q1)).mono ?_
    rintro e w2 ⟨rfl, hx2⟩
    have HX2 := Lib.hid (((Ext.refl w).drewN q1).trans hx2)
    clear hx2
    go_wp2_with fail
    refine (HAW.out w2).mono ?_
    rintro e w3 ⟨rfl, hx3⟩
    have HX3 := Lib.hid (HX2.out.trans hx3)
    clear hx3
    go_wp2
    go_ret
    exact ⟨rfl, HX3.out⟩
  have e0 : decide ((20 : Int) < (na : Int)) = false := by simp; omega
  by_cases g1 : na ≠ nb
  · have e1 : ((na : Int) != (nb : Int)) = true := by simp; omega
    clear h
    go_enter Try.func6, Try.ntmps6
    go_wp2_with fail
    refine (HCO.out w).mono ?_
    rintro e w1 ⟨rfl, q1, rfl⟩
    go_wp2_with fail
    refine (HAW.out (w.drewN q1)).mono ?_
    rintro e w2 ⟨rfl, hx2⟩
    have HX2 := Lib.hid (((Ext.refl w).drewN q1).trans hx2)
    clear hx2
    go_wp2_with fail
    refine (HAW.out w2).mono ?_
    rintro e w3 ⟨rfl, hx3⟩
    have HX3 := Lib.hid (HX2.out.trans hx3)
    clear hx3
    go_wp2
    go_ret
    exact ⟨rfl, HX3.out⟩
  have e1 : ((na : Int) != (nb : Int)) = false := by simp; omega
  by_cases g2 : (nx : Int) < q
  · have e2 : decide ((nx : Int) < q) = true := by simp; omega
    clear h
    go_enter Try.func6, Try.ntmps6
    go_wp2_with fail
    refine (HCO.out w).mono ?_
    rintro e w1 ⟨rfl, q1, rfl⟩
    go_wp2_with fail
    refine (HAW.out (w.drewN q1)).mono ?_
    rintro e w2 ⟨rfl, hx2⟩
    have HX2 := Lib.hid (((Ext.refl w).drewN q1).trans hx2)
    clear hx2
    go_wp2_with fail
    refine (HAW.out w2).mono ?_
    rintro e w3 ⟨rfl, hx3⟩
    have HX3 := Lib.hid (HX2.out.trans hx3)
    clear hx3
    go_wp2
    go_ret
    exact ⟨rfl, HX3.out⟩
  have e2 : decide ((nx : Int) < q) = false := by simp; omega
  by_cases g3 : (ny : Int) < q
  · have e3 : decide ((ny : Int) < q) = true := by simp; omega
    clear h
    go_enter Try.func6, Try.ntmps6
    go_wp2_with fail
    refine (HCO.out w).mono ?_
    rintro e w1 ⟨rfl, q1, rfl⟩
    go_wp2_with fail
    refine (HAW.out (w.drewN q1)).mono ?_
    rintro e w2 ⟨rfl, hx2⟩
    have HX2 := Lib.hid (((Ext.refl w).drewN q1).trans hx2)
    clear hx2
    go_wp2_with fail
    refine (HAW.out w2).mono ?_
    rintro e w3 ⟨rfl, hx3⟩
    have HX3 := Lib.hid (HX2.out.trans hx3)
    clear hx3
    go_wp2
    go_ret
    exact ⟨rfl, HX3.out⟩
  have e3 : decide ((ny : Int) < q) = false := by simp; omega
  by_cases g4 : n < k
  · have e4 : decide ((n : Int) < (k : Int)) = true := by simp; omega
    clear h
    go_enter Try.func6, Try.ntmps6
    go_wp2_with fail
    refine (HCO.out w).mono ?_
    rintro e w1 ⟨rfl, q1, rfl⟩
    go_wp2_with fail
    refine (HAW.out (w.drewN q1)).mono ?_
    rintro e w2 ⟨rfl, hx2⟩
    have HX2 := Lib.hid (((Ext.refl w).drewN q1).trans hx2)
    clear hx2
    go_wp2_with fail
    refine (HAW.out w2).mono ?_
    rintro e w3 ⟨rfl, hx3⟩
    have HX3 := Lib.hid (HX2.out.trans hx3)
    clear hx3
    go_wp2
    go_ret
    exact ⟨rfl, HX3.out⟩
  have e4 : decide ((n : Int) < (k : Int)) = false := by simp; omega
  exact absurd ⟨by omega, by omega, by omega, by omega, by omega⟩ h

set_option maxHeartbeats 4000000 in
set_option maxRecDepth 100000 in
theorem sums5_walk (C : ShamirSaid) (a b x y : List Nat) (o m : Nat) (A B X Y : Option Addr) (ca cb cx cy : Nat) (w : World) (ha : Rd w A a) (hb : Rd w B b) (hx : Rd w X x) (hy : Rd w Y y) (hca : a.length ≤ ca) (hcb : b.length ≤ cb) (hcx : x.length ≤ cx) (hcy : y.length ≤ cy) (hna : a.length ≤ maxLen) (ho : o < 256) (hm : m < 256) :
    Calls Try.prog 6 #[.slice A a.length ca, .slice B b.length cb, .slice X x.length cx, .slice Y y.length cy, .int .u8 (o : Int), .int .u8 (m : Int)] w (Holds w) := by
  obtain ⟨k, hk⟩ : ∃ k, 1 + o % 4 = k := ⟨_, rfl⟩
  obtain ⟨n, hn⟩ : ∃ n, m % 10 = n := ⟨_, rfl⟩
  by_cases hS : Sums5 a.length b.length x.length y.length k n (cnum (a.length : Int) (k : Int))
  rotate_left
  · exact sums5_big C A B X Y _ _ _ _ ca cb cx cy o m k n _ w ho hm hna hk hn rfl hS
  obtain ⟨d, hd⟩ : ∃ d, k = d + 1 := ⟨k - 1, by omega⟩
  have hdI : (k : Int) = (d : Int) + 1 := by omega
  obtain ⟨s1, s2, s3, s4, s5⟩ := hS
  rw [hdI, cnum_nat _ _ (by omega) (by omega)] at s3 s4
  obtain ⟨q, hq⟩ : ∃ q, a.length * d = q := ⟨_, rfl⟩
  rw [hq] at s3 s4
  have hq60 : q ≤ 60 := by rw [← hq]; exact Nat.le_trans (Nat.mul_le_mul s1 (show d ≤ 3 by omega)) (by decide)
  have hxt : (x.take q).length = q := by rw [List.length_take]; omega
  have hyt : (y.take q).length = q := by rw [List.length_take]; omega
  have hbq : b.length * d = q := by rw [← s2, hq]
  have hn10 : n ≤ 10 := by omega
  have HAW := Lib.hid (fun u => awake5 C u)
  have HCO := Lib.hid (fun u => show Calls Try.prog 16 #[.int .i64 (a.length : Int), .int .i64 (k : Int)] u (Hands (.int .i64 (q : Int)) u) from by
    have h := C.coins a.length (k : Int) u ⟨by omega, by omega⟩ ⟨by omega, by omega⟩
    rwa [show cnum (a.length : Int) (k : Int) = cnum (a.length : Int) ((d : Int) + 1) from by rw [hdI], cnum_nat _ _ (by omega) (by omega), hq] at h)
  have HDL := Lib.hid (fun f u (S Q : Option Addr) cs cq (s c : List Nat) (hf : IsField u f) (hs : Rd u S s) (hc : Rd u Q c) (h1 : s.length = a.length) (h2 : c.length = q) (h3 : a.length ≤ cs) (h4 : q ≤ cq) => show Calls Try.prog 12 #[.pointer (some ⟨f, 0, none⟩), .slice S a.length cs, .slice Q q cq, .int .i64 (k : Int), .int .i64 (n : Int)] u (GivesR (deal s c d n) 0 u) from by
    have h := C.deal f s c d n S Q cs cq u hf hs hc (by omega) (by omega) (by omega) (by omega) (ok_nat (by omega) (by omega) (by omega) (by rw [h1, h2, hq]))
    rwa [h1, h2, ← hd] at h)
  have HSU := Lib.hid (fun u (S Q : Option Addr) cs cq (s c : List Nat) N (hs : Rd u S s) (hc : Rd u Q c) (h1 : s.length = N) (h2 : c.length = N) (h3 : N ≤ 60) => show Calls Try.prog 24 #[.slice S N cs, .slice Q N cq] u (fun e u' => ∃ D cd, e = .returned (.slice D N cd) ∧ N ≤ cd ∧ Rd u' D (xr s c) ∧ Ext u u') from by
    have h := law_sum s c S Q cs cq u hs hc (by omega) (by omega)
    unfold Gives at h
    rwa [xr_len, h1, h2] at h)
  have HSA := Lib.hid (fun u (S Q : Option Addr) cs cq (s : List Nat) (hs : Rd u S s) (hc : Rd u Q s) (h1 : s.length = a.length) => show Calls Try.prog 14 #[.slice S a.length cs, .slice Q a.length cq] u (Hands (.bool true) u) from by
    have h := same_true s S Q cs cq u hs hc (by omega)
    rwa [h1] at h)
  have HXR := Lib.hid (fun i (hi : i < n) => shr_xr (d := d) (who := i) ha.1 hb.1 (hx.take q).1 (hy.take q).1 s2 (by rw [hxt, hq]) (by omega))
  have HRO := Lib.hid (fun (s c : List Nat) i (hi : i < n) => deal_ro s c d n i hi)
  have HA := Lib.hid ha
  have HB := Lib.hid hb
  have HX := Lib.hid (hx.take q)
  have HY := Lib.hid (hy.take q)
  have eo : Int.tmod (o : Int) 4 = ((o % 4 : Nat) : Int) := by rw [Int.tmod_eq_emod_of_nonneg (by omega)]; omega
  have em : Int.tmod (m : Int) 10 = (n : Int) := by rw [Int.tmod_eq_emod_of_nonneg (by omega)]; omega
  have ek : IntKind.i64.wrap (1 + ((o % 4 : Nat) : Int)) = (k : Int) := by rw [IntWalk.i64_in _ (by omega)]; omega
  have hoI : (o : Int) < 256 := by omega
  have hmI : (m : Int) < 256 := by omega
  have sx := fun W => run_to_u8 X x.length cx q (by omega) W
  have sy := fun W => run_to_u8 Y y.length cy q (by omega) W
  have HAL := Lib.hid (fun (s c : List Nat) N => deal_len s c d N)
  have e0 : decide ((20 : Int) < (a.length : Int)) = false := by simp; omega
  have e1 : ((a.length : Int) != (b.length : Int)) = false := by simp; omega
  have e2 : decide ((x.length : Int) < (q : Int)) = false := by simp; omega
  have e3 : decide ((y.length : Int) < (q : Int)) = false := by simp; omega
  have e4 : decide ((n : Int) < (k : Int)) = false := by simp; omega
  have HBL := Lib.hid s2.symm
  generalize o % 4 = r at *
  clear hk hn ha hb hx hy hbq hq C hd hdI
  have HCB := Lib.hid (show a.length ≤ cb by omega)
  rw [← s2] at e1 ⊢
  clear s2 hcb
  have HXT := Lib.hid hxt
  have HYT := Lib.hid hyt
  clear hxt hyt
  generalize hna' : a.length = na at *
  have HNA := Lib.hid hna'
  generalize x.length = nx at *
  generalize y.length = ny at *
  clear hna'
  go_enter Try.func6, Try.ntmps6
  go_wp2_with fail
  refine (HCO.out w).mono ?_
  rintro e w1 ⟨rfl, q1, rfl⟩
  go_wp2_with fail
  refine (HAW.out (w.drewN q1)).mono ?_
  rintro e w2 ⟨rfl, hx2⟩
  have HX2 := Lib.hid (((Ext.refl w).drewN q1).trans hx2)
  clear hx2
  go_wp2_with fail
  refine (new_any w2).mono ?_
  rintro e w3 ⟨f, rfl, hf, _, hx3⟩
  have HF := Lib.hid hf
  have HX3 := Lib.hid (HX2.out.trans hx3)
  clear hf hx3
  go_wp2_with fail --MARK1
  refine (HDL.out f w3 A X ca cx a (x.take q) HF.out (HA.out.ext HX3.out) (HX.out.ext HX3.out) HNA.out HXT.out hca (by omega)).mono ?_
  rintro e w4 ⟨v4, rfl, ⟨R4, c4, rfl, hc4, hr4⟩, hx4⟩
  rw [HAL.out] at hc4 ⊢
  have HR4 := Lib.hid hr4
  have HX4 := Lib.hid (HX3.out.trans hx4)
  have HF4 := Lib.hid (HF.out.ext hx4)
  clear hr4 hx4
  go_wp2_with fail
  refine (HDL.out f w4 B Y cb cy b (y.take q) HF4.out (HB.out.ext HX4.out) (HY.out.ext HX4.out) HBL.out HYT.out HCB.out (by omega)).mono ?_
  rintro e w5 ⟨v5, rfl, ⟨R5, c5, rfl, hc5, hr5⟩, hx5⟩
  rw [HAL.out] at hc5 ⊢
  have HR5 := Lib.hid hr5
  have HR45 := Lib.hid (HR4.out.ext hx5)
  have HX5 := Lib.hid (HX4.out.trans hx5)
  have HF5 := Lib.hid (HF4.out.ext hx5)
  clear hr5 hx5
  have HD8 := Lib.hid (fun w6 w7 D6 D7 c6 c7 (hx6 : Ext w5.drew w6) (hx7 : Ext w6 w7) (hr6 : Rd w6 D6 (xr a b)) (hr7 : Rd w7 D7 (xr (x.take q) (y.take q))) (hc6 : na ≤ c6) (hc7 : q ≤ c7) => HDL.out f w7 D6 D7 c6 c7 (xr a b) (xr (x.take q) (y.take q)) (((HF5.out.ext (Ext.refl _).drew).ext hx6).ext hx7) (hr6.ext hx7) hr7 (by rw [xr_len]; exact HNA.out) (by rw [xr_len]; exact HXT.out) hc6 hc7)
  go_wp2
  go_region_law (first
    | (go_simp; go_at_call 24; with_reducible refine (HSU.out w5.drew A B ca cb a b na (HA.out.ext HX5.out.drew) (HB.out.ext HX5.out.drew) HNA.out HBL.out (by omega)).mono ?_; rintro e w6 ⟨D6, c6, rfl, hc6, hr6, hx6⟩)
    | (go_simp; go_at_call 24; with_reducible refine (HSU.out w6 X Y cx cy (x.take q) (y.take q) q ((HX.out.ext HX5.out.drew).ext hx6) ((HY.out.ext HX5.out.drew).ext hx6) HXT.out HYT.out hq60).mono ?_; rintro e w7 ⟨D7, c7, rfl, hc7, hr7, hx7⟩)
    | (go_simp; go_at_call 12; refine (HD8.out _ _ _ _ _ _ hx6 hx7 hr6 hr7 hc6 hc7).mono ?_; rintro e w8 ⟨v8, rfl, ⟨R8, c8, rfl, hc8, hr8⟩, hx8⟩))
  all_goals
    rw [HAL.out] at hc8 ⊢
    have hx58 := ((Ext.refl w5).drew.trans hx6).trans (hx7.trans hx8)
    have HX8 := Lib.hid (HX5.out.trans hx58)
    have HP8 := Lib.hid (HR45.out.ext hx58)
    have HQ8 := Lib.hid (HR5.out.ext hx58)
    have HR8 := Lib.hid hr8
    clear hx58 hx6 hx7 hx8 hr6 hr7 hr8 sx sy
    have tN : ((n : Int) != (n : Int)) = false := by simp
    go_wp2
    go_loopg [137] n (fun g s wx => ∃ i : Nat, i + g = n ∧ s = .int .i64 (i : Int) ∧ Ext w8 wx)
    case atStart => exact ⟨0, by omega, rfl, Ext.refl _⟩
    case round =>
      obtain ⟨i, hig, rfl, hxi⟩ := hrel
      have HXI := Lib.hid hxi
      clear hxi
      cases gk with
      | zero =>
        obtain rfl : i = n := by omega
        clear hig
        go_wp2
        go_ret
        exact ⟨rfl, HX8.out.trans HXI.out⟩
      | succ g =>
        have hi : i < n := by omega
        have hiI : (i : Int) < (n : Int) := by omega
        obtain ⟨b1, o1, B1, c1, e1, h1, h1c, h1r⟩ := (HP8.out.ext HXI.out) i (by rw [HAL.out]; exact hi)
        obtain ⟨b2, o2, B2, c2, e2, h2, h2c, h2r⟩ := (HQ8.out.ext HXI.out) i (by rw [HAL.out]; exact hi)
        obtain ⟨b3, o3, B3, c3, e3, h3, h3c, h3r⟩ := (HR8.out.ext HXI.out) i (by rw [HAL.out]; exact hi)
        subst e1; subst e2; subst e3
        rw [HRO.out _ _ i hi] at h1 h1r h2 h2r h3 h3r
        rw [HXR.out i hi] at h3 h3r
        have l1 : (shr a (x.take q) d i).length = na := by rw [shr_len]; exact HNA.out
        have l2 : (shr b (y.take q) d i).length = na := by rw [shr_len]; exact HBL.out
        rw [l1] at h1
        rw [l2] at h2
        rw [xr_len, l1] at h3
        have HQ1 := Lib.hid h1r
        have HQ2 := Lib.hid h2r
        have HQ3 := Lib.hid h3r
        have HL1 := Lib.hid l1
        have HL2 := Lib.hid l2
        clear h1r h2r h3r h1c h2c h3c l1 l2
        go_wp2
        go_region_law (first
          | (go_simp; go_at_call 24; refine (HSU.out wr.drew B1 B2 c1 c2 _ _ na (HQ1.out.ext (Ext.refl _).drew) (HQ2.out.ext (Ext.refl _).drew) HL1.out HL2.out (by omega)).mono ?_; rintro e w9 ⟨D9, c9, rfl, hc9, hr9, hx9⟩; have k3 : w9.cell? ⟨b3, o3 + i, none⟩ = some (.slice B3 na c3) := (((Ext.refl wr).drew.trans hx9).below.cell (p := ⟨b3, o3 + i, none⟩) (block_lt_of_cell h3)).trans h3)
          | (go_simp; go_at_call 14; refine (HSA.out _ B3 D9 c3 c9 _ (HQ3.out.ext ((Ext.refl wr).drew.trans hx9)) hr9 (by rw [xr_len]; exact HL1.out)).mono ?_; rintro e w10 ⟨rfl, q10, rfl⟩))
        all_goals
          have HX9 := Lib.hid (((HXI.out.drew).trans hx9).drewN q10)
          clear hx9 hr9
          go_wp2
          go_roundg g
          case measure => omega
          case rel => exact ⟨i + 1, by omega, by go_num, HX9.out⟩
end Go.Proofs.Ytffdmhcbcaemfaa

/-
  The law ShamirBack, walked, under what layer 5's functions are to do. Conditions: none.
-/
namespace Go.Proofs.Ytffdmhcbcaemfaa
open Go.RowKit
open Pol (co Sm ev px py)

set_option maxHeartbeats 2000000 in
set_option maxRecDepth 100000 in
theorem back5_big (C : ShamirSaid) (A B P Q : Option Addr) (na nb np nq ca cb cp cq : Nat) (o v : Int) (w : World) (h : 20 < na ∨ 20 < np ∨ 40 < nq) :
    Calls Try.prog 5 #[.slice A na ca, .slice B nb cb, .int .u8 o, .int .u8 v, .slice P np cp, .slice Q nq cq] w (Holds w) := by
  have HAW := Lib.hid (fun u => awake5 C u)
  clear C
  by_cases g0 : 20 < na
  · have e0 : decide ((20 : Int) < (na : Int)) = true := by simp; omega
    clear h
    go_enter Try.func5, Try.ntmps5
    go_wp2_with fail
    refine (HAW.out _).mono ?_
    rintro e w1 ⟨rfl, hx1⟩
    have HX1 := Lib.hid hx1
    clear hx1
    go_wp2_with fail
    refine (HAW.out w1).mono ?_
    rintro e w2 ⟨rfl, hx2⟩
    have HX2 := Lib.hid (HX1.out.trans hx2)
    clear hx2
    go_wp2
    go_ret
    exact ⟨rfl, HX2.out⟩
  have e0 : decide ((20 : Int) < (na : Int)) = false := by simp; omega
  by_cases g1 : 20 < np
  · have e1 : decide ((20 : Int) < (np : Int)) = true := by simp; omega
    clear h
    go_enter Try.func5, Try.ntmps5
    go_wp2_with fail
    refine (HAW.out _).mono ?_
    rintro e w1 ⟨rfl, hx1⟩
    have HX1 := Lib.hid hx1
    clear hx1
    go_wp2_with fail
    refine (HAW.out w1).mono ?_
    rintro e w2 ⟨rfl, hx2⟩
    have HX2 := Lib.hid (HX1.out.trans hx2)
    clear hx2
    go_wp2
    go_ret
    exact ⟨rfl, HX2.out⟩
  have e1 : decide ((20 : Int) < (np : Int)) = false := by simp; omega
  by_cases g2 : 40 < nq
  · have e2 : decide ((40 : Int) < (nq : Int)) = true := by simp; omega
    clear h
    go_enter Try.func5, Try.ntmps5
    go_wp2_with fail
    refine (HAW.out _).mono ?_
    rintro e w1 ⟨rfl, hx1⟩
    have HX1 := Lib.hid hx1
    clear hx1
    go_wp2_with fail
    refine (HAW.out w1).mono ?_
    rintro e w2 ⟨rfl, hx2⟩
    have HX2 := Lib.hid (HX1.out.trans hx2)
    clear hx2
    go_wp2
    go_ret
    exact ⟨rfl, HX2.out⟩
  have e2 : decide ((40 : Int) < (nq : Int)) = false := by simp; omega
  exact absurd h (by omega)
/-- s[:h] where it reads as a list. -/
theorem tab_co' (l : List Nat) : tab l.length (co l) = l := Lin.list_ext (by rw [tab_len]) fun i hi => by
  rw [tab_len] at hi
  rw [co_tab, if_pos hi]
theorem pl_first (s c : List Nat) (d : Nat) : (tab s.length fun t => co (pl s c d t) 0) = s := by
  conv => rhs; rw [← tab_co' s]
  unfold tab pl
  exact List.map_congr_left fun i _ => by rw [Pol.co_zero]

set_option maxHeartbeats 8000000 in
set_option maxRecDepth 100000 in
theorem back5_walk (C : ShamirSaid) (s cc p x : List Nat) (o v : Nat) (A B P Q : Option Addr) (ca cb cp cq : Nat) (w : World) (hs : Rd w A s) (hb : Rd w B cc) (hp : Rd w P p) (hx : Rd w Q x) (hca : s.length ≤ ca) (hcb : cc.length ≤ cb) (hbm : cc.length ≤ maxLen) (ho : o < 256) (hv : v < 256) :
    Calls Try.prog 5 #[.slice A s.length ca, .slice B cc.length cb, .int .u8 (o : Int), .int .u8 (v : Int), .slice P p.length cp, .slice Q x.length cq] w (Holds w) := by
  by_cases hbig : 20 < s.length ∨ 20 < p.length ∨ 40 < x.length
  · exact back5_big C A B P Q _ _ _ _ ca cb cp cq o v w hbig
  obtain ⟨d, hd⟩ : ∃ d, o % 4 = d := ⟨_, rfl⟩
  obtain ⟨k, hk⟩ : ∃ k, d + 1 = k := ⟨_, rfl⟩
  obtain ⟨vv, hvv⟩ : ∃ vv, v % 4 = vv := ⟨_, rfl⟩
  obtain ⟨m, hm⟩ : ∃ m, k + 2 * vv = m := ⟨_, rfl⟩
  obtain ⟨M, hM⟩ : ∃ M, m + 3 = M := ⟨_, rfl⟩
  obtain ⟨n, hn⟩ : ∃ n, s.length * d = n := ⟨_, rfl⟩
  have hn60 : n ≤ 60 := by rw [← hn]; exact Nat.le_trans (Nat.mul_le_mul (show s.length ≤ 20 by omega) (show d ≤ 3 by omega)) (by decide)
  have HAW := Lib.hid (fun u => awake5 C u)
  have HCO := Lib.hid (fun u => show Calls Try.prog 16 #[.int .i64 (s.length : Int), .int .i64 (k : Int)] u (Hands (.int .i64 (n : Int)) u) from by
    have h := C.coins s.length (k : Int) u ⟨by omega, by omega⟩ ⟨by omega, by omega⟩
    rwa [show cnum (s.length : Int) (k : Int) = cnum (s.length : Int) ((d : Int) + 1) from by rw [← hk]; rfl, cnum_nat _ _ (by omega) (by omega), hn] at h)
  have HDL := Lib.hid (fun f u (R : Option Addr) cr (c : List Nat) (hf : IsField u f) (hu : Ext w u) (hc : Rd u R c) (h2 : c.length = n) (h4 : n ≤ cr) => show Calls Try.prog 12 #[.pointer (some ⟨f, 0, none⟩), .slice A s.length ca, .slice R n cr, .int .i64 (k : Int), .int .i64 (M : Int)] u (GivesR (deal s c d M) 0 u) from by
    have h := C.deal f s c d M A R ca cr u hf (hs.ext hu) hc hca (by omega) (by omega) (by omega) (ok_nat (by omega) (by omega) (by omega) (by rw [h2, hn]))
    rwa [h2, hk] at h)
  have HSOME := Lib.hid (fun u (R : Option Addr) cr (c : List Nat) (hu : Ext w u) (hr : RRd u R (deal s c d M)) => show Calls Try.prog 23 #[.slice R M cr, .slice P p.length cp, .int .i64 (m : Int)] u (SomeE (ro (deal s c d M)) M m u) from by
    have h := law_some (deal s c d M) p m s.length R P cr cp u hr (hp.ext hu) (by rw [deal_len]; omega) (by rw [deal_len]; omega) (by omega) (by rw [deal_len]; omega) (fun i hi => by rw [deal_len] at hi; rw [deal_ro _ _ _ _ _ hi, shr_len]) (by omega)
    rwa [deal_len] at h)
  have HOP := Lib.hid (fun f u (gb cg : Nat) (who : Nat → Nat) (S : Nat → Bool) (F : Nat → Nat → Nat) (c : List Nat) (hf : IsField u f) (hcs : Sm c) (hr : SRd u (some ⟨gb, 0, none⟩) (shl m s.length who F)) (hmc : m ≤ cg) (hw : Who M m who S) (hF : ∀ i, i < m → vv ≤ i → ∀ t, t < s.length → F i t = co (shr s c d (who i)) t) => show Calls Try.prog 19 #[.pointer (some ⟨f, 0, none⟩), .slice (some ⟨gb, 0, none⟩) m cg, .int .i64 (k : Int), .int .i64 (vv : Int), .int .i64 (s.length : Int)] u (GivesE s 0 u) from by
    have hok : OpenOk (shl m s.length who F) (k : Int) (vv : Int) (s.length : Int) := shl_ok hw (by omega) (by omega) (by omega) (by omega)
    have h := C.opens f (shl m s.length who F) k vv s.length (some ⟨gb, 0, none⟩) cg u hf hr (by rw [shl_len]; exact hmc) (by rw [shl_len]; omega) hok
    rw [shl_len] at h
    exact h.mono fun _ _ h => h.is hok (fun k => hr.sm k) (a := fun t => pl s c d t) (fun t ht => by rw [← hk]; exact shl_code hs.1 hcs hF t ht) (pl_first s c d))
  have HSAME := Lib.hid (fun u (X : Option Addr) cx (hu : Ext w u) (hX : Rd u X s) => same_true s X A cx ca u hX (hs.ext hu) (by omega))
  have HRO := Lib.hid (fun (c : List Nat) i (hi : i < M) => deal_ro s c d M i hi)
  have HSHL := Lib.hid (fun (c : List Nat) i => shr_len s c d i)
  have HSHS := Lib.hid (fun (c : List Nat) (hc : Sm c) i => shr_sm hs.1 hc d i)
  have HDLN := Lib.hid (fun (c : List Nat) => deal_len s c d M)
  have HQ := Lib.hid hx
  have HB := Lib.hid hb
  have e0 : decide ((20 : Int) < (s.length : Int)) = false := by simp; omega
  have e1 : decide ((20 : Int) < (p.length : Int)) = false := by simp; omega
  have e2 : decide ((40 : Int) < (x.length : Int)) = false := by simp; omega
  have hns : s.length ≤ 20 := by omega
  have hnx : x.length ≤ 40 := by omega
  have hm1 : 1 ≤ m := by omega
  have hm2 : m ≤ 10 := by omega
  have hvm : vv ≤ m := by omega
  have hv4 : vv ≤ 3 := by omega
  have eo : Int.tmod (o : Int) 4 = (d : Int) := by rw [Int.tmod_eq_emod_of_nonneg (by omega)]; omega
  have ev' : Int.tmod (v : Int) 4 = (vv : Int) := by rw [Int.tmod_eq_emod_of_nonneg (by omega)]; omega
  have ek : IntKind.i64.wrap (1 + (d : Int)) = (k : Int) := by rw [IntWalk.i64_in _ (by omega)]; omega
  have e2v : IntKind.i64.wrap (2 * (vv : Int)) = 2 * (vv : Int) := IntWalk.i64_in _ (by omega)
  have em : IntKind.i64.wrap ((k : Int) + 2 * (vv : Int)) = (m : Int) := by rw [IntWalk.i64_in _ (by omega)]; omega
  have eM : IntKind.i64.wrap ((m : Int) + 3) = (M : Int) := by rw [IntWalk.i64_in _ (by omega)]; omega
  have hoI : (o : Int) < 256 := by omega
  have hvI : (v : Int) < 256 := by omega
  have hncb : (cc.length : Int) ≤ 9223372036854775807 := by unfold maxLen at hbm; omega
  generalize hss : s.length = ns at *
  have HSS := Lib.hid hss
  generalize hxx : x.length = nx at *
  have HXX := Lib.hid hxx
  generalize p.length = np at *
  have hMm : m ≤ M := by omega
  have HMW := Lib.hid hMm
  clear hs hb hp hx hbig hd hk hvv hm hM hn C hss hxx hMm hbm
  go_enter Try.func5, Try.ntmps5
  go_wp2_with fail
  refine (HAW.out _).mono ?_
  rintro e w1 ⟨rfl, hx1⟩
  have HX1 := Lib.hid hx1
  clear hx1
  go_wp2_with fail
  refine (new_any w1).mono ?_
  rintro e w2 ⟨f, rfl, hf, _, hx2⟩
  have HF := Lib.hid hf
  have HX2 := Lib.hid (HX1.out.trans hx2)
  clear hf hx2
  go_wp2_with fail
  refine (HCO.out w2).mono ?_
  rintro e w3 ⟨rfl, q3, hw3⟩
  have hx23 : Ext w2 w3 := hw3 ▸ (Ext.refl w2).drewN q3
  have HX3 := Lib.hid (HX2.out.trans hx23)
  have HF3 := Lib.hid (HF.out.ext hx23)
  clear hw3 hx23
  go_wp2
  go_loopg [1] (n - cc.length) (fun g s1 wx => ∃ (c : List Nat) (R : Option Addr) (cr : Nat), g = n - c.length ∧ s1 = .slice R c.length cr ∧ c.length ≤ cr ∧ (c.length : Int) ≤ 9223372036854775807 ∧ Rd wx R c ∧ Ext w3 wx)
  case atStart => exact ⟨cc, B, cb, rfl, rfl, hcb, hncb, HB.out.ext HX3.out, Ext.refl _⟩
  case round =>
    obtain ⟨c, R, cr, hgc, rfl, hcr, hcI, hrd, hxr⟩ := hrel
    have HRD := Lib.hid hrd
    have HXR := Lib.hid hxr
    clear hrd hxr
    cases gk with
    | succ g =>
      have hlt : c.length < n := by omega
      have hltI : (c.length : Int) < (n : Int) := by omega
      obtain ⟨lc, hlc⟩ : ∃ lc, c.length = lc := ⟨_, rfl⟩
      obtain ⟨y, hy⟩ : ∃ y : Nat, y = (lc * 7 + 1) % 256 := ⟨_, rfl⟩
      have hy256 : y < 256 := by omega
      have ey : IntKind.u8.wrap ((lc : Int) * 7 + 1) = (y : Int) := by rw [IntKind.wrap_u8]; omega
      rw [hlc] at hlt hltI hcr hcI hgc ⊢
      have HLC := Lib.hid hlc
      clear hlc hy
      have HSC := Lib.hid HRD.out.1
      go_wp2_with (first
        | (at_builtin; refine wpList_append_rd rfl (.tmp 58) (.tmp 59) rfl wr.heap.size _ [] c rfl (mine_empty wr) R lc cr rfl HLC.out (HRD.out.ext ((Ext.refl _).alloc _)) (by rw [HLC.out]; simp; omega) (by simp) ?_; intro v5 w5 hown5 hg5 hat5
           have hx5 : Ext wr w5 := ((Ext.refl _).alloc (.cells #[] 5)).more hg5 (fun r e => ((mine_empty wr).block r e).1)
           rw [List.nil_append] at hown5
           obtain ⟨Bu, cu, eu, hcu, _⟩ := hown5.slice HSC.out
           rw [HLC.out] at eu hcu
           subst eu
           have HU5 := Lib.hid hown5
           have HX5 := Lib.hid hx5
           have hz5 := hx5.size
           clear hown5 hg5 hat5 hx5)
        | (at_builtin; refine wpList_append_rd rfl (.tmp 60) (.tmp 66) rfl wr.heap.size _ c [y] rfl (mine_ext HU5.out ((Ext.refl _).alloc _)) (some ⟨w5.heap.size, 0, none⟩) 1 1 rfl rfl (rd_one w5 y hy256) (by rw [HLC.out]; simp; omega) (by simp; omega) ?_; intro v9 w9 hown9 hg9 hat9))
      have hx9 : Ext wr w9 := (HX5.out.alloc _).more hg9 (fun r e => (HU5.out.block r e).1)
      have hl9 : (c ++ [y]).length = lc + 1 := by rw [List.length_append, HLC.out]; rfl
      obtain ⟨B9, c9, e9, hc9, hr9⟩ := hown9.slice (Pol.co_lt_of fun z hz => by
        rcases List.mem_append.1 hz with h | h
        · exact HSC.out.mem z h
        · rw [List.mem_singleton.1 h]; exact hy256)
      rw [hl9] at e9 hc9
      subst e9
      have HR9 := Lib.hid hr9
      have HX9 := Lib.hid (HXR.out.trans hx9)
      have HL9 := Lib.hid hl9
      clear hown9 hg9 hat9 hx9 hr9 hl9
      go_wp2
      go_roundg g
      case measure => omega
      case rel => exact ⟨c ++ [y], B9, c9, by rw [HL9.out]; omega, by rw [HL9.out], by rw [HL9.out]; exact hc9, by rw [HL9.out]; omega, HR9.out, HX9.out⟩
    | zero =>
      have hge : n ≤ c.length := by omega
      have tge : decide ((c.length : Int) < (n : Int)) = false := by simp; omega
      have sl := fun W => run_to_u8 R c.length cr n (by omega) W
      have HTK := Lib.hid (HRD.out.take n)
      have HTL := Lib.hid (show (c.take n).length = n by rw [List.length_take]; omega)
      have hncr : n ≤ cr := by omega
      generalize c.length = lc at *
      generalize c.take n = c0 at HTK HTL
      clear HRD hgc
      go_wp2_with fail
      refine (HDL.out f wr R cr c0 (HF3.out.ext HXR.out) (HX3.out.trans HXR.out) HTK.out HTL.out hncr).mono ?_
      rintro e w5 ⟨v5, rfl, ⟨R5, c5, rfl, hc5, hr5⟩, hx5⟩
      rw [HDLN.out] at hc5 ⊢
      have HX5 := Lib.hid ((HX3.out.trans HXR.out).trans hx5)
      have HF5 := Lib.hid ((HF3.out.ext HXR.out).ext hx5)
      have HSO := Lib.hid (HSOME.out w5 R5 c5 c0 HX5.out hr5)
      have HC0 := Lib.hid HTK.out.1
      clear hx5 hr5 sl tge
      go_wp2_with fail
      refine HSO.out.mono ?_
      rintro e w6 ⟨v6, who, u, S, rfl, hbld, hwho, hx6⟩
      have hwM : ∀ i, i < m → ro (deal s c0 d M) (who i) = shr s c0 d (who i) := fun i hi => HRO.out c0 _ (hwho.lt i hi)
      obtain ⟨gb, cap, AA, cs, gs, rfl, hcap, hgb, hsps⟩ := hbld.sps (N := ns) (by omega) (fun i hi => by rw [hwM i hi]; exact HSHL.out c0 _) (fun i hi => by rw [hwM i hi]; exact HSHS.out c0 HC0.out _)
      have HWHO := Lib.hid hwho
      have HX6 := Lib.hid hx6
      have HSP := Lib.hid hsps
      have HWM := Lib.hid hwM
      clear hbld hwho hx6 hsps hwM
      go_wp2
      go_loopg [93] vv (fun g s93 wx => ∃ (i : Nat) (F : Nat → Nat → Nat), i + g = vv ∧ s93 = .int .i64 (i : Int) ∧ Sps wx (w5.heap.size + 1) gb m ns who AA cs gs F ∧ (∀ r, vv ≤ r → F r = co (ro (deal s c0 d M) (who r))) ∧ Ext w5 wx)
      case atStart => exact ⟨0, _, by omega, rfl, HSP.out, fun _ _ => rfl, HX6.out⟩
      case round =>
        obtain ⟨i, F, hig, rfl, hsp, hF, hxi⟩ := hrel
        have HSI := Lib.hid hsp
        have HFI := Lib.hid hF
        have HXI := Lib.hid hxi
        clear hsp hF hxi
        cases gk with
        | zero =>
          obtain rfl : i = vv := by omega
          clear hig
          have HO := Lib.hid (HOP.out f wr gb cap who S F c0 (HF5.out.ext HXI.out) HC0.out HSI.out.reads hcap HWHO.out (fun r hr hv t _ => by rw [HFI.out r hv, HWM.out r hr]))
          go_wp2_with fail
          refine HO.out.mono ?_
          rintro e w8 ⟨v8, rfl, ⟨B8, c8, rfl, hc8, hr8⟩, hx8⟩
          rw [HSS.out] at hc8 ⊢
          have HX8 := Lib.hid ((HX5.out.trans HXI.out).trans hx8)
          have HSM := Lib.hid (HSAME.out w8 B8 c8 HX8.out hr8)
          clear hx8 hr8
          go_wp2_with fail
          refine HSM.out.mono ?_
          rintro e w9 ⟨rfl, q9, rfl⟩
          go_wp2
          go_ret
          exact ⟨rfl, HX8.out.drewN q9⟩
        | succ g =>
          have hi : i < vv := by omega
          have hiI : (i : Int) < (vv : Int) := by omega
          have him : (i : Int) < (m : Int) := by omega
          have hdc := (HSI.out.datc i (by omega)).1
          obtain ⟨wq, hwq⟩ : ∃ wq, wq = wr := ⟨_, rfl⟩
          subst hwq
          go_wp2
          clear hdc
          go_loopg [102] ns (fun g s102 wx => ∃ (j : Nat) (F : Nat → Nat → Nat), j + g = ns ∧ s102 = .int .i64 (j : Int) ∧ Sps wx (w5.heap.size + 1) gb m ns who AA cs gs F ∧ (∀ r, vv ≤ r → F r = co (ro (deal s c0 d M) (who r))) ∧ Ext w5 wx)
          case atStart => exact ⟨0, F, by omega, rfl, HSI.out, HFI.out, HXI.out⟩
          case round =>
            obtain ⟨j, F, hjg, rfl, hsp, hF, hxj⟩ := hrel
            have HSJ := Lib.hid hsp
            have HFJ := Lib.hid hF
            have HXJ := Lib.hid hxj
            clear hsp hF hxj
            cases gk with
            | zero =>
              obtain rfl : j = ns := by omega
              clear hjg
              go_wp2
              go_roundg g
              case measure => omega
              case rel => exact ⟨i + 1, F, by omega, by go_num, HSJ.out, HFJ.out, HXJ.out⟩
            | succ g2 =>
              have hj : j < ns := by omega
              have hjI : (j : Int) < (ns : Int) := by omega
              by_cases hlt : i * 20 + j < nx
              · have tl : decide ((i : Int) * 20 + (j : Int) < (nx : Int)) = true := by simp; omega
                have hltI : (i : Int) * 20 + (j : Int) < (nx : Int) := by omega
                have hdc := (HSJ.out.datc i (by omega)).1
                rw [HSJ.out.adr i (by omega) (by omega)] at hdc
                have hce := ((HSJ.out.cel i (by omega)) j hj).1
                have hfz := ((HSJ.out.cel i (by omega)) j hj).2
                have hby := HSJ.out.byt i (by omega) j hj
                obtain ⟨bq, oq, eq, hcq⟩ := (HQ.out.ext (HX5.out.trans HXJ.out)).2 (i * 20 + j) (by rw [HXX.out]; exact hlt)
                subst eq
                have hqb := HQ.out.1 (i * 20 + j)
                obtain ⟨a, ha⟩ : ∃ a, F i j = a := ⟨_, rfl⟩
                obtain ⟨b, hb⟩ : ∃ b, co x (i * 20 + j) = b := ⟨_, rfl⟩
                rw [ha] at hce hby
                rw [hb] at hcq hqb
                have ex : bits .xor .u8 (a : Int) (b : Int) = ((a ^^^ b : Nat) : Int) := u8_xor_nat a b hby hqb
                obtain ⟨ij, hij⟩ : ∃ ij, i * 20 + j = ij := ⟨_, rfl⟩
                have e20 : IntKind.i64.wrap ((i : Int) * 20) = (i : Int) * 20 := IntWalk.i64_in _ (by omega)
                have eij : IntKind.i64.wrap ((i : Int) * 20 + (j : Int)) = (ij : Int) := by rw [IntWalk.i64_in _ (by omega)]; omega
                rw [hij] at hcq
                have hijI : (ij : Int) < (nx : Int) := by omega
                have tij : decide ((ij : Int) < (nx : Int)) = true := by simp; omega
                have HST := Lib.hid (fun q => (HSJ.out.drewN q).store i j (a ^^^ b) (by omega) hj (Gf.xor_lt _ _ hby hqb))
                have HEX := Lib.hid (fun q => (HXJ.out.drewN q).setCell (p := ⟨gs i, j, none⟩) (by have := HSJ.out.new i (by omega) (by omega); show w5.heap.size ≤ gs i; omega) (.int .u8 ((a ^^^ b : Nat) : Int)))
                clear ha hb hlt hij
                go_wp2
                refine wp_region_quiet_tail 17 (fun w' => ∃ q, w' = wr.drewN q) (by kernel_rfl) (by kernel_rfl) ⟨1, rfl⟩ ?_
                simp only [List.take_succ_cons, List.take_zero, List.drop_succ_cons, List.drop_zero]
                repeat (quiet_step (fail))
                refine wpQuiet_nil ?_
                rintro _ ⟨q2, rfl⟩
                go_wp2
                go_roundg g2
                case measure => omega
                case rel => exact ⟨j + 1, _, by omega, by go_num, HST.out q2, fun r hr => by
                  show (if r = i then _ else F r) = _
                  rw [if_neg (by omega)]
                  exact HFJ.out r hr, HEX.out q2⟩
              · have tl : decide ((i : Int) * 20 + (j : Int) < (nx : Int)) = false := by simp; omega
                go_wp2
                go_roundg g2
                case measure => omega
                case rel => exact ⟨j + 1, F, by omega, by go_num, HSJ.out, HFJ.out, HXJ.out⟩
end Go.Proofs.Ytffdmhcbcaemfaa

/-
  The law ShamirAlone, walked, under what layer 5's functions are to do. Conditions: none.
-/
namespace Go.Proofs.Ytffdmhcbcaemfaa
open Go.RowKit
open Pol (co Sm ev px py Apart)

theorem shr_alone (s : List Nat) (who : Nat) : shr s [] 0 who = s := by
  refine Lin.list_ext (shr_len _ _ _ _) (fun i hi => ?_)
  rw [shr_len] at hi
  unfold shr
  rw [co_tab, if_pos hi]
  show co s i ^^^ Gf.mul (who + 1) 0 = co s i
  rw [Gf.mul_zero, Nat.xor_zero]
theorem cnum_one (b : Int) : cnum b 1 = 0 := by unfold cnum; rw [if_pos (by omega)]
theorem cnum_none (o : Int) : cnum 0 o = 0 := by unfold cnum; rw [if_pos (by omega)]
theorem deal_alone (C : ShamirSaid) (f : Nat) (s : List Nat) (n : Nat) (A : Option Addr) (ca : Nat) (w : World) (hf : IsField w f) (hs : Rd w A s) (hc : s.length ≤ ca) (hl : s.length ≤ 4096) (h1 : 1 ≤ n) (h2 : n ≤ 200) (N : Int) (hN : N = (n : Int)) :
    Calls Try.prog 12 #[.pointer (some ⟨f, 0, none⟩), .slice A s.length ca, .slice none 0 0, .int .i64 1, .int .i64 N] w (GivesR (deal s [] 0 n) 0 w) := by
  subst hN
  exact C.deal f s [] 0 n A none ca 0 w hf hs (Rd.nil _ _) hc (Nat.le_refl _) hl (by decide) ⟨by decide, by omega, by omega, hl, (cnum_one _).symm⟩
theorem deal_empty (C : ShamirSaid) (f : Nat) (n : Nat) (w : World) (hf : IsField w f) (h1 : 1 ≤ n) (h2 : n ≤ 200) (N : Int) (hN : N = (n : Int)) :
    Calls Try.prog 12 #[.pointer (some ⟨f, 0, none⟩), .slice none 0 0, .slice none 0 0, .int .i64 N, .int .i64 N] w (GivesR (deal [] [] (n - 1) n) 0 w) := by
  have h := C.deal f [] [] (n - 1) n none none 0 0 w hf (Rd.nil _ _) (Rd.nil _ _) (Nat.le_refl _) (Nat.le_refl _) (by decide) (by decide) ⟨by omega, by omega, by omega, by decide, (cnum_none _).symm⟩
  rw [show ((n - 1 + 1 : Nat) : Int) = N from by omega, ← hN] at h
  exact h

set_option maxHeartbeats 800000 in
set_option maxRecDepth 100000 in
theorem alone5_big (C : ShamirSaid) (A : Option Addr) (n ca : Nat) (x : Int) (h : 60 < n) (w : World) :
    Calls Try.prog 7 #[.slice A n ca, .int .u8 x] w (Holds w) := by
  have HAW := Lib.hid (fun u => awake5 C u)
  have t1 : (60 : Int) < (n : Int) := by omega
  go_enter Try.func7, Try.ntmps7
  go_wp2_with fail
  refine (HAW.out w).mono ?_
  rintro e w1 ⟨rfl, hx1⟩
  have HX1 := Lib.hid hx1
  clear hx1
  go_wp2_with fail
  refine (HAW.out w1).mono ?_
  rintro e w2 ⟨rfl, hx2⟩
  have HX2 := Lib.hid hx2
  clear hx2
  go_wp2
  go_ret
  exact ⟨rfl, HX1.out.trans HX2.out⟩

set_option maxHeartbeats 2000000 in
set_option maxRecDepth 100000 in
theorem alone5_walk (C : ShamirSaid) (s : List Nat) (x : Nat) (A : Option Addr) (ca : Nat) (w : World) (hs : Rd w A s) (hc : s.length ≤ ca) (hx : x < 256) :
    Calls Try.prog 7 #[.slice A s.length ca, .int .u8 (x : Int)] w (Holds w) := by
  by_cases hb : 60 < s.length
  · exact alone5_big C A _ ca x hb w
  obtain ⟨r, hr⟩ : ∃ r, x % 20 = r := ⟨_, rfl⟩
  obtain ⟨N, hN⟩ : ∃ N, 1 + r = N := ⟨_, rfl⟩
  have hN1 : 1 ≤ N := by omega
  have hN2 : N ≤ 20 := by omega
  have ew : IntKind.i64.wrap (1 + (r : Int)) = (N : Int) := by rw [IntWalk.i64_in _ (by omega)]; omega
  have em : Int.tmod (x : Int) 20 = (r : Int) := by rw [Int.tmod_eq_emod_of_nonneg (by omega)]; omega
  have HAW := Lib.hid (fun u => awake5 C u)
  have HD1 := Lib.hid (fun f u (hf : IsField u f) (hu : Ext w u) => deal_alone C f s N A ca u hf (hs.ext hu) hc (by omega) (by omega) (by omega) (N : Int) rfl)
  have HD2 := Lib.hid (fun f u (hf : IsField u f) => deal_empty C f N u hf (by omega) (by omega) (N : Int) rfl)
  have HSA := Lib.hid (fun X cx W (hX : Rd W X s) (hW : Ext w W) => same_true s X A cx ca W hX (hs.ext hW) (by omega))
  have HRO := Lib.hid (fun i (hi : i < N) => show ro (deal s [] 0 N) i = s by rw [deal_ro _ _ _ _ _ hi, shr_alone])
  have HR2 := Lib.hid (fun i (hi : i < N) => show ro (deal [] [] (N - 1) N) i = [] by rw [deal_ro _ _ _ _ _ hi]; rfl)
  have HL1 := Lib.hid (deal_len s [] 0 N)
  have HL2 := Lib.hid (deal_len [] [] (N - 1) N)
  have t1 : decide ((60 : Int) < (s.length : Int)) = false := by simp; omega
  generalize hns : s.length = n at *
  have HNS := Lib.hid hns
  clear hns
  have hxI : (x : Int) < 256 := by omega
  clear hs hr hN
  go_enter Try.func7, Try.ntmps7
  go_wp2_with fail
  refine (HAW.out w).mono ?_
  rintro e w1 ⟨rfl, hx1⟩
  have HX1 := Lib.hid hx1
  clear hx1
  go_wp2_with fail
  refine (new_any w1).mono ?_
  rintro e w2 ⟨f, rfl, hf, _, hx2⟩
  have HF := Lib.hid hf
  have HX2 := Lib.hid (HX1.out.trans hx2)
  clear hf hx2
  go_wp2_with fail
  refine (HD1.out f w2 HF.out HX2.out).mono ?_
  rintro e w3 ⟨v3, rfl, ⟨R3, c3, rfl, hc3, hr3⟩, hx3⟩
  rw [HL1.out] at hc3 ⊢
  have HX3 := Lib.hid (HX2.out.trans hx3)
  have HF3 := Lib.hid (HF.out.ext hx3)
  have HR3 := Lib.hid hr3
  clear hr3 hx3
  go_wp2_with fail
  refine (HD2.out f w3 HF3.out).mono ?_
  rintro e w4 ⟨v4, rfl, ⟨R4, c4, rfl, hc4, hr4⟩, hx4⟩
  rw [HL2.out] at hc4 ⊢
  have HX4 := Lib.hid (HX3.out.trans hx4)
  have HR4 := Lib.hid hr4
  have HR34 := Lib.hid (HR3.out.ext hx4)
  clear hr4 hx4
  have tN : ((N : Int) != (N : Int)) = false := by simp
  go_wp2
  go_loopg [59] N (fun g s wx => ∃ k m : Nat, k + g = N ∧ s = .int .i64 (k : Int) ∧ wx = w4.drewN m)
  case atStart => exact ⟨0, 0, by omega, rfl, rfl⟩
  case round =>
    obtain ⟨k, m, hkg, rfl, rfl⟩ := hrel
    cases gk with
    | zero =>
      obtain rfl : k = N := by omega
      clear hkg
      go_wp2
      go_ret
      exact ⟨rfl, HX4.out.drewN m⟩
    | succ g =>
      have hk : k < N := by omega
      have hkI : (k : Int) < (N : Int) := by omega
      obtain ⟨b1, o1, B1, c1, e1, h1, h1c, h1r⟩ := HR34.out k (by rw [HL1.out]; exact hk)
      obtain ⟨b2, o2, B2, c2, e2, h2, h2c, h2r⟩ := HR4.out k (by rw [HL2.out]; exact hk)
      subst e1; subst e2
      rw [HRO.out k hk] at h1r
      rw [HRO.out k hk, HNS.out] at h1
      rw [HR2.out k hk] at h2
      have h1' : (w4.drewN m).cell? ⟨b1, o1 + k, none⟩ = some (.slice B1 n c1) := h1
      have HS := Lib.hid (HSA.out B1 c1 (w4.drewN m) (h1r.drewN m) (HX4.out.drewN m))
      clear h1 h1r h2r
      go_wp2_with fail
      refine HS.out.mono ?_
      rintro e w5 ⟨rfl, q, rfl⟩
      have h2' : ((w4.drewN m).drewN q).cell? ⟨b2, o2 + k, none⟩ = some (.slice B2 0 c2) := h2
      go_wp2
      go_roundg g
      case measure => omega
      case rel => exact ⟨k + 1, m + q, by omega, by go_num, rfl⟩
end Go.Proofs.Ytffdmhcbcaemfaa

/-
  The law ShamirFew, walked, under what layer 5's functions are to do. Conditions: none.
-/
namespace Go.Proofs.Ytffdmhcbcaemfaa
open Go.RowKit
open Pol (co Sm ev px py Apart)

/-- A share of one byte by one coin. -/
def sh1 (a c who : Nat) : Nat := a ^^^ Gf.mul (who + 1) c
theorem shr_one (a c who : Nat) : shr [a] [c] 1 who = [sh1 a c who] := by
  show [a ^^^ Gf.mul (who + 1) (c ^^^ Gf.mul (who + 1) 0)] = [sh1 a c who]
  rw [Gf.mul_zero, Nat.xor_zero]
  rfl
theorem sh1_lt {a c who : Nat} (ha : a < 256) : sh1 a c who < 256 := Gf.xor_lt _ _ ha (Gf.mul_lt _ _)
/-- How many coins below n make the share. -/
def hits (v a who : Nat) : Nat → Nat
  | 0 => 0
  | n + 1 => hits v a who n + (if v = sh1 a n who then 1 else 0)
theorem hits_le (v a who : Nat) : ∀ n, hits v a who n ≤ n
  | 0 => Nat.le_refl _
  | n + 1 => by have := hits_le v a who n; unfold hits; split <;> omega
theorem hits_none {v a who : Nat} : ∀ n, (∀ c, c < n → v ≠ sh1 a c who) → hits v a who n = 0
  | 0, _ => rfl
  | n + 1, h => by unfold hits; rw [hits_none n (fun c hc => h c (by omega)), if_neg (h n (by omega))]
theorem hits_one {v a who c : Nat} (hv : v = sh1 a c who) (hu : ∀ c', c' < 256 → v = sh1 a c' who → c' = c) : ∀ n, n ≤ 256 → c < n → hits v a who n = 1
  | 0, _, h => by omega
  | n + 1, hn, h => by
    unfold hits
    by_cases e : n = c
    · subst e
      rw [hits_none n (fun c' hc' e' => by have := hu c' (by omega) e'; omega), if_pos hv]
    · rw [hits_one hv hu n (by omega) (by omega), if_neg (fun e' => e (hu n (by omega) e'))]
theorem hits_all {v a who : Nat} (hv : v < 256) (ha : a < 256) (hw : who < 255) : hits v a who 256 = 1 := by
  have hx : who + 1 < 256 := by omega
  have hva : v ^^^ a < 256 := Gf.xor_lt _ _ hv ha
  refine hits_one (c := Gf.quo (v ^^^ a) (who + 1)) ?_ (fun c' hc' e => ?_) 256 (Nat.le_refl _) (Gf.quo_lt _ _)
  · unfold sh1
    rw [Gf.mul_comm, Gf.quo_mul _ _ hva hx (by omega), Nat.xor_comm v a, ← Nat.xor_assoc, Nat.xor_self, Nat.zero_xor]
  · refine (Gf.quo_of _ _ _ hva hx (by omega) hc' ?_).symm
    rw [e]
    unfold sh1
    rw [Nat.xor_comm a, Nat.xor_assoc, Nat.xor_self, Nat.xor_zero, Gf.mul_comm]
theorem deal_one (C : ShamirSaid) (f a c : Nat) (u : World) (hf : IsField ((u.alloc (.cells #[.int .u8 (a : Int)] 5)).alloc (.cells #[.int .u8 (c : Int)] 5)) f) (ha : a < 256) (hc : c < 256) :
    Calls Try.prog 12 #[.pointer (some ⟨f, 0, none⟩), .slice (some ⟨u.heap.size, 0, none⟩) 1 1, .slice (some ⟨u.heap.size + 1, 0, none⟩) 1 1, .int .i64 2, .int .i64 9] ((u.alloc (.cells #[.int .u8 (a : Int)] 5)).alloc (.cells #[.int .u8 (c : Int)] 5)) (GivesR (deal [a] [c] 1 9) 0 ((u.alloc (.cells #[.int .u8 (a : Int)] 5)).alloc (.cells #[.int .u8 (c : Int)] 5))) := by
  have h2 := rd_one (u.alloc (.cells #[.int .u8 (a : Int)] 5)) c hc
  rw [show (u.alloc (.cells #[.int .u8 (a : Int)] 5)).heap.size = u.heap.size + 1 from by simp] at h2
  exact C.deal f [a] [c] 1 9 (some ⟨u.heap.size, 0, none⟩) (some ⟨u.heap.size + 1, 0, none⟩) 1 1 _ hf ((rd_one u a ha).ext ((Ext.refl _).alloc _)) h2 (Nat.le_refl _) (Nat.le_refl _) (by simp) (by simp) ⟨by decide, by decide, by decide, by simp, rfl⟩

set_option maxHeartbeats 2000000 in
set_option maxRecDepth 100000 in
theorem few5_walk (C : ShamirSaid) (a b c x : Nat) (w : World) (ha : a < 256) (hb : b < 256) (hc : c < 256) (hx : x < 256) :
    Calls Try.prog 8 #[.int .u8 (a : Int), .int .u8 (b : Int), .int .u8 (c : Int), .int .u8 (x : Int)] w (Holds w) := by
  obtain ⟨k, hk⟩ : ∃ k, x % 9 = k := ⟨_, rfl⟩
  have hk9 : k < 9 := by omega
  have em : Int.tmod (x : Int) 9 = (k : Int) := by rw [Int.tmod_eq_emod_of_nonneg (by omega)]; omega
  have hkI : (k : Int) < 9 := by omega
  have HAW := Lib.hid (fun u => awake5 C u)
  have HD1 := Lib.hid (fun f u (hf : IsField ((u.alloc (.cells #[.int .u8 (a : Int)] 5)).alloc (.cells #[.int .u8 (c : Int)] 5)) f) => deal_one C f a c u hf ha hc)
  have HD2 := Lib.hid (fun f (y : Nat) u (hf : IsField ((u.alloc (.cells #[.int .u8 (b : Int)] 5)).alloc (.cells #[.int .u8 (y : Int)] 5)) f) (hy : y < 256) => deal_one C f b y u hf hb hy)
  have HL1 := Lib.hid (deal_len [a] [c] 1 9)
  have HL2 := Lib.hid (fun y => deal_len [b] [y] 1 9)
  have HR1 := Lib.hid (show ro (deal [a] [c] 1 9) k = [sh1 a c k] by rw [deal_ro _ _ _ _ _ hk9, shr_one])
  have HR2 := Lib.hid (fun y => show ro (deal [b] [y] 1 9) k = [sh1 b y k] by rw [deal_ro _ _ _ _ _ hk9, shr_one])
  obtain ⟨v, hv⟩ : ∃ v, sh1 a c k = v := ⟨_, rfl⟩
  have hvl : v < 256 := by rw [← hv]; exact sh1_lt ha
  have HALL := Lib.hid (hits_all (v := v) (a := b) (who := k) hvl hb (by omega))
  have HLE := Lib.hid (fun n => hits_le v b k n)
  rw [hv] at HR1
  clear hk hv C
  go_enter Try.func8, Try.ntmps8
  go_wp2_with fail
  refine (HAW.out w).mono ?_
  rintro e w1 ⟨rfl, hx1⟩
  have HX1 := Lib.hid hx1
  clear hx1
  go_wp2_with fail
  refine (new_any w1).mono ?_
  rintro e w2 ⟨f, rfl, hf, _, hx2⟩
  have HF := Lib.hid hf
  have HX2 := Lib.hid (HX1.out.trans hx2)
  clear hf hx2
  go_wp2_with fail
  refine (HD1.out f w2 (HF.out.ext (((Ext.refl _).alloc _).alloc _))).mono ?_
  rintro e w3 ⟨v3, rfl, ⟨R3, c3, rfl, hc3, hr3⟩, hx3⟩
  rw [HL1.out] at hc3 ⊢
  have hx23 := (((Ext.refl w2).alloc _).alloc _).trans hx3
  have HX3 := Lib.hid (HX2.out.trans hx23)
  have HF3 := Lib.hid (HF.out.ext hx23)
  obtain ⟨b1, o1, B1, c1, e1, h1, h1c, h1r⟩ := hr3 k (by rw [HL1.out]; exact hk9)
  subst e1
  rw [HR1.out] at h1 h1r
  have H1 := Lib.hid (show w3.cell? ⟨b1, o1 + k, none⟩ = some (.slice B1 1 c1) from h1)
  have H1R := Lib.hid h1r
  clear hr3 hx3 hx23 h1 h1r h1c
  go_wp2
  go_loopg [13, 32] 256 (fun g s13 s32 wx => ∃ y : Nat, y + g = 256 ∧ s32 = .int .i64 (y : Int) ∧ s13 = .int .i64 ((hits v b k y : Nat) : Int) ∧ Ext w3 wx)
  case atStart => exact ⟨0, by omega, rfl, rfl, Ext.refl _⟩
  case round =>
    obtain ⟨y, hyg, rfl, rfl, hx⟩ := hrel
    have HX := Lib.hid hx
    have hle := HLE.out y
    clear hx
    cases gk with
    | zero =>
      obtain rfl : y = 256 := by omega
      clear hyg
      rw [HALL.out]
      go_wp2
      go_ret
      exact ⟨rfl, HX3.out.trans HX.out⟩
    | succ g =>
      have hy : y < 256 := by omega
      have hyI : (y : Int) < 256 := by omega
      have hst : hits v b k (y + 1) = hits v b k y + (if v = sh1 b y k then 1 else 0) := rfl
      have ey : IntKind.u8.wrap (y : Int) = (y : Int) := IntWalk.u8_in _ (by omega)
      obtain ⟨hn, hhn⟩ : ∃ hn, hits v b k y = hn := ⟨_, rfl⟩
      rw [hhn] at hst hle ⊢
      have HHN := Lib.hid hst
      clear hst hhn
      go_wp2_with fail
      refine (HD2.out f y wr (HF3.out.ext (HX.out.trans (((Ext.refl _).alloc _).alloc _))) hy).mono ?_
      rintro e w4 ⟨v4, rfl, ⟨R4, c4, rfl, hc4, hr4⟩, hx4⟩
      rw [HL2.out] at hc4 ⊢
      have hx34 := HX.out.trans ((((Ext.refl wr).alloc _).alloc _).trans hx4)
      have HX4 := Lib.hid hx34
      obtain ⟨b2, o2, B2, c2, e2, h2, h2c, h2r⟩ := hr4 k (by rw [HL2.out]; exact hk9)
      subst e2
      rw [HR2.out y] at h2 h2r
      have h2' : w4.cell? ⟨b2, o2 + k, none⟩ = some (.slice B2 1 c2) := h2
      have h1' : w4.cell? ⟨b1, o1 + k, none⟩ = some (.slice B1 1 c1) := (hx34.below.cell (p := ⟨b1, o1 + k, none⟩) (block_lt_of_cell H1.out)).trans H1.out
      have H1R4 := Lib.hid (H1R.out.ext hx34)
      have H2R4 := Lib.hid h2r
      clear hr4 hx4 hx34 h2 h2r h2c
      by_cases hq : v = sh1 b y k
      · rw [if_pos hq] at HHN
        have HS := Lib.hid (fun q => same_true [v] B1 B2 c1 c2 (w4.drewN q) (H1R4.out.drewN q) ((show Rd w4 B2 [v] by rw [hq]; exact H2R4.out).drewN q) (by simp))
        clear hq
        go_wp2
        go_quiet (first | (go_at_call 14; exact quiet_hands (HS.out _)))
        go_wp2
        go_roundg g
        case measure => omega
        case rel => exact ⟨y + 1, by omega, by go_num, by rw [HHN.out]; go_num, HX4.out.drewN _⟩
      · rw [if_neg hq] at HHN
        have HS := Lib.hid (fun q => same_no [v] [sh1 b y k] B1 B2 c1 c2 (w4.drewN q) (H1R4.out.drewN q) (H2R4.out.drewN q) (by simp) (fun e => hq (by injection e)))
        clear hq
        go_wp2
        go_quiet (first | (go_at_call 14; exact quiet_hands (HS.out _)))
        go_wp2
        go_roundg g
        case measure => omega
        case rel => exact ⟨y + 1, by omega, by go_num, by rw [HHN.out]; go_num, HX4.out.drewN _⟩
end Go.Proofs.Ytffdmhcbcaemfaa

/-
  Parts of shares, laid together: slices of shares, appends of several shares, what they read as. Conditions: no more than 2^20 shares.
-/
namespace Go.Proofs.Ytffdmhcbcaemfaa
open Go.RowKit
open Pol (co Sm)

theorem sv_get (n : Nat) (who : Nat → Nat) (u : Nat → Value) (j : Nat) (h : j < n * 2) : (sv n who u)[j]? = some (if j % 2 = 0 then .int .i64 ((who (j / 2) : Nat) : Int) else u (j / 2)) := by
  have h1 := sv_at who u n (j / 2) (by omega)
  by_cases e : j % 2 = 0
  · rw [if_pos e]
    have := h1.1
    rwa [show j / 2 * 2 = j from by omega] at this
  · rw [if_neg e]
    have := h1.2
    rwa [show j / 2 * 2 + 1 = j from by omega] at this
theorem sv_append (a b : Nat) (who who' : Nat → Nat) (u u' : Nat → Value) : sv a who u ++ sv b who' u' = sv (a + b) (fun i => if i < a then who i else who' (i - a)) (fun i => if i < a then u i else u' (i - a)) := by
  induction b with
  | zero =>
    rw [show sv 0 who' u' = [] from rfl, List.append_nil]
    exact sv_congr fun i hi => ⟨(if_pos hi).symm, (if_pos hi).symm⟩
  | succ b ih =>
    rw [sv_succ, ← List.append_assoc, ih, ← Nat.add_assoc, sv_succ]
    congr 2
    · rw [if_neg (by omega), Nat.add_sub_cancel_left]
    · rw [if_neg (by omega), Nat.add_sub_cancel_left]
/-- s[:h] and s[l:] of shares. -/
theorem run_to_sh (g m cap h : Nat) (hh : h ≤ cap) (W : World) :
    (Instr.slice 39 (.slice (some ⟨g, 0, none⟩) m cap) none (some (.int .i64 (h : Int))) none).run Try.prog W = .ok (.slice (some ⟨g, 0, none⟩) h cap) W := by
  obtain ⟨i0, hi, hz0, hz1, hz2⟩ := info_parts share_info
  have he : Try.prog.elem 39 = 24 := by kernel_rfl
  rw [run_slice_h W 39 _ m cap (by rw [he]; exact Try.underlying39) .i64 (h : Int) (by omega) (by omega), he]
  simp [sizeOf, typeInfo, hi, hz1, Result.andThen, sliced, addr_add]
theorem run_from_sh (g m cap l : Nat) (hl : l ≤ m) (hm : m ≤ cap) : ∃ o, (l < m → o = l * 2) ∧ ∀ W,
    (Instr.slice 39 (.slice (some ⟨g, 0, none⟩) m cap) (some (.int .i64 (l : Int))) none none).run Try.prog W = .ok (.slice (some ⟨g, o, none⟩) (m - l) (cap - l)) W := by
  obtain ⟨i0, hi, hz0, hz1, hz2⟩ := info_parts share_info
  have he : Try.prog.elem 39 = 24 := by kernel_rfl
  refine ⟨if cap = l then 0 else l * 2, fun h => if_neg (by omega), fun W => ?_⟩
  rw [run_slice_l W 39 _ m cap (by rw [he]; exact Try.underlying39) .i64 (l : Int) (by omega) (by omega), he]
  simp [sizeOf, typeInfo, hi, hz1, Result.andThen, sliced, addr_add]
  split <;> simp
theorem run_tail_u8 (A : Option Addr) (len cap : Nat) (h1 : 1 ≤ len) (h2 : len ≤ cap) : ∃ X : Option Addr, (∀ W, (Instr.slice 22 (.slice A len cap) (some (.int .i64 1)) none none).run Try.prog W = .ok (.slice X (len - 1) (cap - 1)) W) ∧
    ∀ w l, Rd w A l → l.length = len → Rd w X (tab (len - 1) (fun j => co l (1 + j))) := by
  obtain ⟨i0, hi, hz0, hz1, hz2⟩ := info_parts u8_info
  have he : Try.prog.elem 22 = 5 := by kernel_rfl
  refine ⟨if cap = 1 then A else A.map (·.add 1), fun W => ?_, fun w l h hl => ⟨tab_sm _ _ fun _ _ => h.1 _, fun i hi => ?_⟩⟩
  · rw [run_slice_l W 22 _ len cap (by rw [he]; exact Try.underlying22) .i64 1 (by omega) (by omega), he]
    cases A <;> simp [sizeOf, typeInfo, hi, hz1, Result.andThen, sliced]
  · rw [tab_len] at hi
    obtain ⟨b', o', e, hc⟩ := h.2 (1 + i) (by omega)
    subst e
    refine ⟨b', o' + 1, by rw [if_neg (by omega)]; simp [addr_add], ?_⟩
    rw [co_tab, if_pos hi, Nat.add_assoc]
    exact hc
/-- Cells from an address on. -/
def CRd (w : World) (g o : Nat) (xs : List Value) : Prop := ∀ j u, xs[j]? = some u → w.cell? ⟨g, o + j, none⟩ = some u
theorem CRd.ext {w w' : World} {g o : Nat} {xs : List Value} (h : CRd w g o xs) (hx : Ext w w') : CRd w' g o xs := fun j u hj => (hx.below.cell (p := ⟨g, o + j, none⟩) (block_lt_of_cell (h j u hj))).trans (h j u hj)
set_option maxRecDepth 100000 in
theorem run_append_shs (w : World) (base : Nat) (ty : TypeId) (v : Value) (n : Nat) (xs : List Value) (hown : w.ownsRow base 24 2 v n xs) (g o k c : Nat) (ys : List Value) (hl : ys.length = k * 2) (hy : CRd w g o ys) (h1 : ∀ u ∈ ys, u.oneCell' = true)
    (hlen : n + k ≤ 1048576) (hbase : base ≤ w.heap.size) :
    ∃ v' w', (Builtin.append_ #[39, 39] ty #[v, .slice (some ⟨g, o, none⟩) k c]).run Try.prog w = .ok v' w' ∧ w'.ownsRow base 24 2 v' (n + k) (xs ++ ys) ∧ w.grownBy w' v.ownBlock ∧ (v'.ownBlock = v.ownBlock ∨ v'.ownBlock = some w.heap.size) := by
  obtain ⟨i0, hi, hz0, hz1, hz2⟩ := info_parts share_info
  obtain ⟨v', w', r1, r2, r3, _, r5⟩ := run_append_own_at (P := Try.prog) w base 39 ty 24 i0 (.agg #[.int .i64 0, .slice none 0 0]) 2 32 Try.underlying39 hi hz0 hz1 hz2 rfl (by omega) v n xs hown ⟨g, o, none⟩ k c ys hl
    (fun j x hj => by rw [addr_add]; exact hy j x hj) h1 (by unfold maxLen; omega) (by omega) hbase
  exact ⟨v', w', r1, r2, r3, r5⟩
theorem step_append_shs {ops : Array Oper} {op : Oper} {a : Act} {w : World} {K : Act → World → Prop} {Q : Exit → Act → World → Prop} {E : Prop} (hgd : op.guard = none) (s x : Operand)
    (ho : op.op = .call { callee := .builtin .append, args := #[s, x], argTypes := #[39, 39] })
    (base : Nat) (v : Value) (n : Nat) (xs : List Value) (hs : a.eval s = v) (hown : w.ownsRow base 24 2 v n xs) (g o k c : Nat) (ys : List Value) (hx : a.eval x = .slice (some ⟨g, o, none⟩) k c) (hl : ys.length = k * 2) (hy : CRd w g o ys) (h1 : ∀ u ∈ ys, u.oneCell' = true)
    (hlen : n + k ≤ 1048576) (hbase : base ≤ w.heap.size)
    (h : ∀ v' w', w'.ownsRow base 24 2 v' (n + k) (xs ++ ys) → w.grownBy w' v.ownBlock → (v'.ownBlock = v.ownBlock ∨ v'.ownBlock = some w.heap.size) → K (a.put op.dst v') w') :
    if Region.wanted op (yielded ops a.tmps) = true then Oper.wp Try.prog op a w K Q else E := by
  rw [if_pos (by simp [Region.wanted, hgd])]
  obtain ⟨v', w', hrun, h2, h3, h4⟩ := run_append_shs w base op.type v n xs hown g o k c ys hl hy h1 hlen hbase
  unfold Oper.wp execOp
  simp only [ho, resolve, invoke, builtin, Sem.run_bind, Sem.run_pure, Result.andThen_ok, List.map_toArray, List.map_cons, List.map_nil, hs, hx, hrun]
  exact h v' w' h2 h3 h4
theorem wpList_append_shs {ops : Array Oper} {rest : List Oper} {op : Oper} {a : Act} {w : World} {Q : Exit → Act → World → Prop} (hgd : op.guard = none) (s x : Operand)
    (ho : op.op = .call { callee := .builtin .append, args := #[s, x], argTypes := #[39, 39] })
    (base : Nat) (v : Value) (n : Nat) (xs : List Value) (hs : a.eval s = v) (hown : w.ownsRow base 24 2 v n xs) (g o k c : Nat) (ys : List Value) (hx : a.eval x = .slice (some ⟨g, o, none⟩) k c) (hl : ys.length = k * 2) (hy : CRd w g o ys) (h1 : ∀ u ∈ ys, u.oneCell' = true)
    (hlen : n + k ≤ 1048576) (hbase : base ≤ w.heap.size)
    (h : ∀ v' w', w'.ownsRow base 24 2 v' (n + k) (xs ++ ys) → w.grownBy w' v.ownBlock → (v'.ownBlock = v.ownBlock ∨ v'.ownBlock = some w.heap.size) → wpList Try.prog ops Q rest (a.put op.dst v') w') :
    wpList Try.prog ops Q (op :: rest) a w := by
  refine wpList_plain hgd fun K hK => ?_
  obtain ⟨v', w', hrun, h2, h3, h4⟩ := run_append_shs w base op.type v n xs hown g o k c ys hl hy h1 hlen hbase
  unfold Oper.wp execOp
  simp only [ho, resolve, invoke, builtin, Sem.run_bind, Sem.run_pure, Result.andThen_ok, List.map_toArray, List.map_cons, List.map_nil, hs, hx, hrun]
  exact hK _ _ (h v' w' h2 h3 h4)
/-- Values that are slices of these bytes. -/
def Dat (w : World) (n : Nat) (u : Nat → Value) (D : Nat → List Nat) : Prop := ∀ i, i < n → ∃ B c, u i = .slice B (D i).length c ∧ (D i).length ≤ c ∧ Rd w B (D i)
theorem Dat.ext {w w' : World} {n : Nat} {u : Nat → Value} {D : Nat → List Nat} (h : Dat w n u D) (hx : Ext w w') : Dat w' n u D := fun i hi => by
  obtain ⟨B, c, h1, h2, h3⟩ := h i hi
  exact ⟨B, c, h1, h2, h3.ext hx⟩
theorem Dat.ones {w : World} {n : Nat} {u : Nat → Value} {D : Nat → List Nat} (h : Dat w n u D) (who : Nat → Nat) : ∀ x ∈ sv n who u, x.oneCell' = true := fun x hx => by
  obtain ⟨i, hi, hp⟩ := List.mem_flatMap.1 hx
  simp at hp
  rcases hp with rfl | rfl
  · rfl
  · obtain ⟨B, c, e, _⟩ := h i (List.mem_range.1 hi)
    rw [e]; rfl
/-- The list of shares. -/
def lst5 (n : Nat) (who : Nat → Nat) (D : Nat → List Nat) : List (Int × List Nat) := (List.range n).map fun i => (((who i : Nat) : Int), D i)
theorem lst5_len (n : Nat) (who : Nat → Nat) (D : Nat → List Nat) : (lst5 n who D).length = n := by simp [lst5]
theorem lst5_at (n : Nat) (who : Nat → Nat) (D : Nat → List Nat) (i : Nat) (h : i < n) : wh (lst5 n who D) i = ((who i : Nat) : Int) ∧ dt (lst5 n who D) i = D i := by
  unfold wh dt lst5
  rw [List.getElem?_map, List.getElem?_range h]
  exact ⟨rfl, rfl⟩
theorem lst5_out (n : Nat) (who : Nat → Nat) (D : Nat → List Nat) (i : Nat) (h : n ≤ i) : wh (lst5 n who D) i = 0 ∧ dt (lst5 n who D) i = [] := by
  unfold wh dt
  rw [List.getElem?_eq_none (by rw [lst5_len]; exact h)]
  exact ⟨rfl, rfl⟩
theorem own_srd {w : World} {base n : Nat} {v : Value} {who : Nat → Nat} {u : Nat → Value} {D : Nat → List Nat} (h : w.ownsRow base 24 2 v n (sv n who u)) (hn : 0 < n) (hd : Dat w n u D) :
    ∃ g cap, v = .slice (some ⟨g, 0, none⟩) n cap ∧ n ≤ cap ∧ base ≤ g ∧ SRd w (some ⟨g, 0, none⟩) (lst5 n who D) ∧ CRd w g 0 (sv n who u) ∧ ∀ o, w.frozen? ⟨g, o, none⟩ = false := by
  rcases h.2 with ⟨_, h0⟩ | ⟨g, cap, cur, e, hb, hg, hc, _, _, ht⟩
  · omega
  have hcell : ∀ j, j < n * 2 → w.cell? ⟨g, j, none⟩ = (sv n who u)[j]? := fun j hj => by
    rw [cell_of_row w g j cur _ _ hg, ← ht, List.getElem?_take, if_pos hj]
    simp
  refine ⟨g, cap, e, hc, hb, fun i hi => ?_, fun j x hj => ?_, fun o => frozen_of_row w g o cur _ hg⟩
  · rw [lst5_len] at hi
    obtain ⟨B, c, h1, h2, h3⟩ := hd i hi
    rw [(lst5_at n who D i hi).1, (lst5_at n who D i hi).2]
    exact ⟨g, 0, B, c, rfl, by rw [Nat.zero_add, hcell _ (by omega), (sv_at who u n i hi).1], by rw [Nat.zero_add, hcell _ (by omega), (sv_at who u n i hi).2, h1], h2, h3⟩
  · have := (List.getElem?_eq_some_iff.1 hj).1
    rw [sv_len] at this
    rw [Nat.zero_add, hcell j this, hj]
end Go.Proofs.Ytffdmhcbcaemfaa

/-
  The law ShamirShort, walked, under what layer 5's functions are to do. Conditions: none.
-/
namespace Go.Proofs.Ytffdmhcbcaemfaa
open Go.RowKit
open Pol (co Sm ev px py)

set_option maxHeartbeats 2000000 in
set_option maxRecDepth 100000 in
theorem short5_big (C : ShamirSaid) (A B : Option Addr) (na nb ca cb : Nat) (o v y : Int) (w : World) (h : na < 1 ∨ 20 < na) :
    Calls Try.prog 9 #[.slice A na ca, .slice B nb cb, .int .u8 o, .int .u8 v, .int .u8 y] w (Holds w) := by
  have HAW := Lib.hid (fun u => awake5 C u)
  clear C
  by_cases g0 : na = 0
  · subst g0
    clear h
    go_enter Try.func9, Try.ntmps9
    go_wp2_with fail
    refine (HAW.out _).mono ?_
    rintro e w1 ⟨rfl, hx1⟩
    have HX1 := Lib.hid hx1
    clear hx1
    go_wp2_with fail
    refine (HAW.out w1).mono ?_
    rintro e w2 ⟨rfl, hx2⟩
    have HX2 := Lib.hid (HX1.out.trans hx2)
    clear hx2
    go_wp2
    go_ret
    exact ⟨rfl, HX2.out⟩
  have e0 : decide ((na : Int) < 1) = false := by simp; omega
  have e1 : decide ((20 : Int) < (na : Int)) = true := by simp; omega
  clear h
  go_enter Try.func9, Try.ntmps9
  go_wp2_with fail
  refine (HAW.out _).mono ?_
  rintro e w1 ⟨rfl, hx1⟩
  have HX1 := Lib.hid hx1
  clear hx1
  go_wp2_with fail
  refine (HAW.out w1).mono ?_
  rintro e w2 ⟨rfl, hx2⟩
  have HX2 := Lib.hid (HX1.out.trans hx2)
  clear hx2
  go_wp2
  go_ret
  exact ⟨rfl, HX2.out⟩
/-- What is read of a part of the shares. -/
theorem crd_take {w : World} {g m t : Nat} {who : Nat → Nat} {u : Nat → Value} (h : CRd w g 0 (sv m who u)) (ht : t ≤ m) : CRd w g 0 (sv t who u) := fun j x hj => by
  have hlt := (List.getElem?_eq_some_iff.1 hj).1
  rw [sv_len] at hlt
  exact h j x (by rw [sv_get m who u j (by omega), ← sv_get t who u j hlt, hj])
theorem crd_drop {w : World} {g m t o : Nat} {who : Nat → Nat} {u : Nat → Value} (h : CRd w g 0 (sv m who u)) (ho : t < m → o = t * 2) : CRd w g o (sv (m - t) (fun i => who (i + t)) (fun i => u (i + t))) := fun j x hj => by
  have hlt := (List.getElem?_eq_some_iff.1 hj).1
  rw [sv_len] at hlt
  rw [ho (by omega)]
  have := h (t * 2 + j) x (by
    rw [sv_get m who u _ (by omega), ← hj, sv_get _ _ _ j hlt, show (t * 2 + j) % 2 = j % 2 from by omega, show (t * 2 + j) / 2 = j / 2 + t from by omega])
  rwa [Nat.zero_add] at this
theorem shut_few {n k v b : Nat} {who : Nat → Nat} {D : Nat → List Nat} (h : n < k + 2 * v) : ¬ OpenOk (lst5 n who D) (k : Int) (v : Int) (b : Int) := fun hk => by
  have := hk.1.2.2.2.2
  rw [lst5_len] at this
  omega
theorem shut_twice {n k v b i j : Nat} {who : Nat → Nat} {D : Nat → List Nat} (hji : j < i) (hi : i < n) (h : who j = who i) : ¬ OpenOk (lst5 n who D) (k : Int) (v : Int) (b : Int) := fun hk => by
  have := (hk.2 i (by rw [lst5_len]; exact hi)).2.2.2 j hji
  rw [(lst5_at n who D i hi).1, (lst5_at n who D j (by omega)).1, h] at this
  exact this rfl
theorem shut_long {n k v b i : Nat} {who : Nat → Nat} {D : Nat → List Nat} (hi : i < n) (h : (D i).length ≠ b) : ¬ OpenOk (lst5 n who D) (k : Int) (v : Int) (b : Int) := fun hk => by
  have := (hk.2 i (by rw [lst5_len]; exact hi)).2.2.1
  rw [(lst5_at n who D i hi).2] at this
  omega
theorem crd_lit (w : World) (xs : List Value) (t : TypeId) : CRd (w.alloc (.cells xs.toArray t)) w.heap.size 0 xs := fun j u hj => by
  rw [Nat.zero_add, cell_of_row _ _ _ _ _ _ (heap_alloc_new w _)]
  simpa using hj

set_option maxHeartbeats 40000000 in
set_option maxRecDepth 100000 in
theorem short5_walk (C : ShamirSaid) (s cc : List Nat) (o v y : Nat) (A B : Option Addr) (ca cb : Nat) (w : World) (hs : Rd w A s) (hb : Rd w B cc) (hca : s.length ≤ ca) (hcb : cc.length ≤ cb) (hbm : cc.length ≤ maxLen) (ho : o < 256) (hv : v < 256) (hy : y < 256) :
    Calls Try.prog 9 #[.slice A s.length ca, .slice B cc.length cb, .int .u8 (o : Int), .int .u8 (v : Int), .int .u8 (y : Int)] w (Holds w) := by
  by_cases hbig : s.length < 1 ∨ 20 < s.length
  · exact short5_big C A B _ _ ca cb o v y w hbig
  obtain ⟨r, hr⟩ : ∃ r, o % 3 = r := ⟨_, rfl⟩
  obtain ⟨d, hd⟩ : ∃ d, r + 1 = d := ⟨_, rfl⟩
  obtain ⟨k, hk⟩ : ∃ k, d + 1 = k := ⟨_, rfl⟩
  obtain ⟨vv, hvv⟩ : ∃ vv, v % 3 = vv := ⟨_, rfl⟩
  obtain ⟨m, hm⟩ : ∃ m, k + 2 * vv = m := ⟨_, rfl⟩
  obtain ⟨n, hn⟩ : ∃ n, s.length * d = n := ⟨_, rfl⟩
  obtain ⟨t, ht⟩ : ∃ t, y % m = t := ⟨_, rfl⟩
  have htm : t < m := by rw [← ht]; exact Nat.mod_lt _ (by omega)
  have hn60 : n ≤ 60 := by rw [← hn]; exact Nat.le_trans (Nat.mul_le_mul (show s.length ≤ 20 by omega) (show d ≤ 3 by omega)) (by decide)
  have HAW := Lib.hid (fun u => awake5 C u)
  have HCO := Lib.hid (fun u => show Calls Try.prog 16 #[.int .i64 (s.length : Int), .int .i64 (k : Int)] u (Hands (.int .i64 (n : Int)) u) from by
    have h := C.coins s.length (k : Int) u ⟨by omega, by omega⟩ ⟨by omega, by omega⟩
    rwa [show cnum (s.length : Int) (k : Int) = cnum (s.length : Int) ((d : Int) + 1) from by rw [← hk]; rfl, cnum_nat _ _ (by omega) (by omega), hn] at h)
  have HDL := Lib.hid (fun f u (R : Option Addr) cr (c : List Nat) (hf : IsField u f) (hu : Ext w u) (hc : Rd u R c) (h2 : c.length = n) (h4 : n ≤ cr) => show Calls Try.prog 12 #[.pointer (some ⟨f, 0, none⟩), .slice A s.length ca, .slice R n cr, .int .i64 (k : Int), .int .i64 (m : Int)] u (GivesR (deal s c d m) 0 u) from by
    have h := C.deal f s c d m A R ca cr u hf (hs.ext hu) hc hca (by omega) (by omega) (by omega) (ok_nat (by omega) (by omega) (by omega) (by rw [h2, hn]))
    rwa [h2, hk] at h)
  have HSOME := Lib.hid (fun u (R : Option Addr) cr (c : List Nat) (hr : RRd u R (deal s c d m)) => show Calls Try.prog 23 #[.slice R m cr, .slice none 0 0, .int .i64 (m : Int)] u (SomeE (ro (deal s c d m)) m m u) from by
    have h := law_some (deal s c d m) [] m s.length R none cr 0 u hr (Rd.nil _ _) (by rw [deal_len]; omega) (by rw [deal_len]; omega) (by simp) (by rw [deal_len]; omega) (fun i hi => by rw [deal_len] at hi; rw [deal_ro _ _ _ _ _ hi, shr_len]) (by omega)
    rwa [deal_len] at h)
  have HSHUT := Lib.hid (fun f u (g cg n' : Nat) (who : Nat → Nat) (D : Nat → List Nat) (hf : IsField u f) (hr : SRd u (some ⟨g, 0, none⟩) (lst5 n' who D)) (hcg : n' ≤ cg) (hn' : n' ≤ 20) (hD : ∀ i, i < n' → (D i).length ≤ 20) (hw : ∀ i, i < n' → who i < 200) (hno : ¬ OpenOk (lst5 n' who D) (k : Int) (vv : Int) (s.length : Int)) => show Calls Try.prog 19 #[.pointer (some ⟨f, 0, none⟩), .slice (some ⟨g, 0, none⟩) n' cg, .int .i64 (k : Int), .int .i64 (vv : Int), .int .i64 (s.length : Int)] u (GivesE [] 1 u) from by
    have h := C.shut f (lst5 n' who D) k vv s.length (some ⟨g, 0, none⟩) cg u hf hr (by rw [lst5_len]; exact hcg) (by rw [lst5_len]; omega) (fun i => by
      by_cases hi : i < n'
      · rw [(lst5_at n' who D i hi).1]; have := hw i hi; exact ⟨by omega, by omega⟩
      · rw [(lst5_out n' who D i (by omega)).1]; exact ⟨by omega, by omega⟩) (fun i => by
      by_cases hi : i < n'
      · rw [(lst5_at n' who D i hi).2]; have := hD i hi; omega
      · rw [(lst5_out n' who D i (by omega)).2]; simp) ⟨by omega, by omega⟩ ⟨by omega, by omega⟩ ⟨by omega, by omega⟩ hno
    rwa [lst5_len] at h)
  have HRO := Lib.hid (fun (c : List Nat) i (hi : i < m) => deal_ro s c d m i hi)
  have HSHL := Lib.hid (fun (c : List Nat) i => shr_len s c d i)
  have HSHS := Lib.hid (fun (c : List Nat) (hc : Sm c) i => shr_sm hs.1 hc d i)
  have HDLN := Lib.hid (fun (c : List Nat) => deal_len s c d m)
  have HB := Lib.hid hb
  have HFEW := Lib.hid (show m - 1 < k + 2 * vv by omega)
  have e0 : decide ((s.length : Int) < 1) = false := by simp; omega
  have e1 : decide ((20 : Int) < (s.length : Int)) = false := by simp; omega
  have hns : s.length ≤ 20 := by omega
  have hns1 : 1 ≤ s.length := by omega
  have hm1 : 2 ≤ m := by omega
  have hm2 : m ≤ 10 := by omega
  have eo : Int.tmod (o : Int) 3 = (r : Int) := by rw [Int.tmod_eq_emod_of_nonneg (by omega)]; omega
  have ev' : Int.tmod (v : Int) 3 = (vv : Int) := by rw [Int.tmod_eq_emod_of_nonneg (by omega)]; omega
  have et : Int.tmod (y : Int) (m : Int) = (t : Int) := by rw [Int.tmod_eq_emod_of_nonneg (by omega), ← ht]; rfl
  have hm0 : ((m : Int) == 0) = false := by simp; omega
  have ek : IntKind.i64.wrap (2 + (r : Int)) = (k : Int) := by rw [IntWalk.i64_in _ (by omega)]; omega
  have e2v : IntKind.i64.wrap (2 * (vv : Int)) = 2 * (vv : Int) := IntWalk.i64_in _ (by omega)
  have em : IntKind.i64.wrap ((k : Int) + 2 * (vv : Int)) = (m : Int) := by rw [IntWalk.i64_in _ (by omega)]; omega
  obtain ⟨t1, ht1⟩ : ∃ t1, t + 1 = t1 := ⟨_, rfl⟩
  have et1 : IntKind.i64.wrap ((t : Int) + 1) = (t1 : Int) := by rw [IntWalk.i64_in _ (by omega)]; omega
  have ht1m : t1 ≤ m := by omega
  have htI : (t : Int) < (m : Int) := by omega
  have hoI : (o : Int) < 256 := by omega
  have hvI : (v : Int) < 256 := by omega
  have hyI : (y : Int) < 256 := by omega
  have hncb : (cc.length : Int) ≤ 9223372036854775807 := by unfold maxLen at hbm; omega
  have hvv2 : vv ≤ 2 := by omega
  generalize s.length = ns at *
  have HT1 := Lib.hid ht1
  clear hs hb hbig hr hd hk hvv hm hn ht C hbm ht1
  go_enter Try.func9, Try.ntmps9
  go_wp2_with fail
  refine (HAW.out _).mono ?_
  rintro e w1 ⟨rfl, hx1⟩
  have HX1 := Lib.hid hx1
  clear hx1
  go_wp2_with fail
  refine (new_any w1).mono ?_
  rintro e w2 ⟨f, rfl, hf, _, hx2⟩
  have HF := Lib.hid hf
  have HX2 := Lib.hid (HX1.out.trans hx2)
  clear hf hx2
  go_wp2_with fail
  refine (HCO.out w2).mono ?_
  rintro e w3 ⟨rfl, q3, hw3⟩
  have hx23 : Ext w2 w3 := hw3 ▸ (Ext.refl w2).drewN q3
  have HX3 := Lib.hid (HX2.out.trans hx23)
  have HF3 := Lib.hid (HF.out.ext hx23)
  clear hw3 hx23
  go_wp2
  go_loopg [1] (n - cc.length) (fun g s1 wx => ∃ (c : List Nat) (R : Option Addr) (cr : Nat), g = n - c.length ∧ s1 = .slice R c.length cr ∧ c.length ≤ cr ∧ (c.length : Int) ≤ 9223372036854775807 ∧ Rd wx R c ∧ Ext w3 wx)
  case atStart => exact ⟨cc, B, cb, rfl, rfl, hcb, hncb, HB.out.ext HX3.out, Ext.refl _⟩
  case round =>
    obtain ⟨c, R, cr, hgc, rfl, hcr, hcI, hrd, hxr⟩ := hrel
    have HRD := Lib.hid hrd
    have HXR := Lib.hid hxr
    clear hrd hxr
    cases gk with
    | succ g =>
      have hlt : c.length < n := by omega
      have hltI : (c.length : Int) < (n : Int) := by omega
      obtain ⟨lc, hlc⟩ : ∃ lc, c.length = lc := ⟨_, rfl⟩
      obtain ⟨y, hy⟩ : ∃ y : Nat, y = (lc * 3) % 256 := ⟨_, rfl⟩
      have hy256 : y < 256 := by omega
      have ey : IntKind.u8.wrap ((lc : Int) * 3) = (y : Int) := by rw [IntKind.wrap_u8]; omega
      rw [hlc] at hlt hltI hcr hcI hgc ⊢
      have HLC := Lib.hid hlc
      clear hlc hy
      have HSC := Lib.hid HRD.out.1
      go_wp2_with (first
        | (at_builtin; refine wpList_append_rd rfl (.tmp 55) (.tmp 56) rfl wr.heap.size _ [] c rfl (mine_empty wr) R lc cr rfl HLC.out (HRD.out.ext ((Ext.refl _).alloc _)) (by rw [HLC.out]; simp; omega) (by simp) ?_; intro v5 w5 hown5 hg5 hat5
           have hx5 : Ext wr w5 := ((Ext.refl _).alloc (.cells #[] 5)).more hg5 (fun r e => ((mine_empty wr).block r e).1)
           rw [List.nil_append] at hown5
           obtain ⟨Bu, cu, eu, hcu, _⟩ := hown5.slice HSC.out
           rw [HLC.out] at eu hcu
           subst eu
           have HU5 := Lib.hid hown5
           have HX5 := Lib.hid hx5
           have hz5 := hx5.size
           clear hown5 hg5 hat5 hx5)
        | (at_builtin; refine wpList_append_rd rfl (.tmp 57) (.tmp 62) rfl wr.heap.size _ c [y] rfl (mine_ext HU5.out ((Ext.refl _).alloc _)) (some ⟨w5.heap.size, 0, none⟩) 1 1 rfl rfl (rd_one w5 y hy256) (by rw [HLC.out]; simp; omega) (by simp; omega) ?_; intro v9 w9 hown9 hg9 hat9))
      have hx9 : Ext wr w9 := (HX5.out.alloc _).more hg9 (fun r e => (HU5.out.block r e).1)
      have hl9 : (c ++ [y]).length = lc + 1 := by rw [List.length_append, HLC.out]; rfl
      obtain ⟨B9, c9, e9, hc9, hr9⟩ := hown9.slice (Pol.co_lt_of fun z hz => by
        rcases List.mem_append.1 hz with h | h
        · exact HSC.out.mem z h
        · rw [List.mem_singleton.1 h]; exact hy256)
      rw [hl9] at e9 hc9
      subst e9
      have HR9 := Lib.hid hr9
      have HX9 := Lib.hid (HXR.out.trans hx9)
      have HL9 := Lib.hid hl9
      clear hown9 hg9 hat9 hx9 hr9 hl9
      go_wp2
      go_roundg g
      case measure => omega
      case rel => exact ⟨c ++ [y], B9, c9, by rw [HL9.out]; omega, by rw [HL9.out], by rw [HL9.out]; exact hc9, by rw [HL9.out]; omega, HR9.out, HX9.out⟩
    | zero =>
      have hge : n ≤ c.length := by omega
      have tge : decide ((c.length : Int) < (n : Int)) = false := by simp; omega
      have sl := fun W => run_to_u8 R c.length cr n (by omega) W
      have HTK := Lib.hid (HRD.out.take n)
      have HTL := Lib.hid (show (c.take n).length = n by rw [List.length_take]; omega)
      have hncr : n ≤ cr := by omega
      generalize c.length = lc at *
      generalize c.take n = c0 at HTK HTL
      clear HRD hgc
      go_wp2_with fail
      refine (HDL.out f wr R cr c0 (HF3.out.ext HXR.out) (HX3.out.trans HXR.out) HTK.out HTL.out hncr).mono ?_
      rintro e w5 ⟨v5, rfl, ⟨R5, c5, rfl, hc5, hr5⟩, hx5⟩
      rw [HDLN.out] at hc5 ⊢
      have HX5 := Lib.hid ((HX3.out.trans HXR.out).trans hx5)
      have HF5 := Lib.hid ((HF3.out.ext HXR.out).ext hx5)
      have HSO := Lib.hid (HSOME.out w5 R5 c5 c0 hr5)
      have HC0 := Lib.hid HTK.out.1
      clear hx5 hr5 sl tge
      go_wp2_with fail
      refine HSO.out.mono ?_
      rintro e w6 ⟨v6, who, u, S, rfl, hbld, hwho, hx6⟩
      have hwM : ∀ i, i < m → ro (deal s c0 d m) (who i) = shr s c0 d (who i) := fun i hi => HRO.out c0 _ (hwho.lt i hi)
      obtain ⟨D, hD⟩ : ∃ D : Nat → List Nat, ∀ i, D i = ro (deal s c0 d m) (who i) := ⟨_, fun _ => rfl⟩
      have hDl : ∀ i, i < m → (D i).length = ns := fun i hi => by rw [hD, hwM i hi]; exact HSHL.out c0 _
      have hdat : Dat w6 m u D := fun i hi => by
        have h := (hbld.dat i hi).slice (by rw [hwM i hi]; exact HSHS.out c0 HC0.out _)
        rw [hD]
        exact h
      obtain ⟨gb, cap, rfl, hcap, _, _, hcrd, _⟩ := own_srd hbld.own (by omega) hdat
      have HWHO := Lib.hid (fun i (hi : i < m) => show who i < 200 by have := hwho.lt i hi; omega)
      have HX6 := Lib.hid (HX5.out.trans hx6)
      have HF6 := Lib.hid (HF5.out.ext hx6)
      have HCRD := Lib.hid hcrd
      have HDAT := Lib.hid hdat
      have HDLE := Lib.hid hDl
      clear hbld hwho hx6 hwM hdat hcrd hDl hD
      have hto := fun W => run_to_sh gb m cap t (by omega) W
      obtain ⟨o2, ho2, hfrom⟩ := run_from_sh gb m cap t1 ht1m hcap
      have HC1 := Lib.hid (crd_take HCRD.out (Nat.le_of_lt htm))
      have HC2 := Lib.hid (crd_drop HCRD.out ho2)
      have HO1 := Lib.hid ((show Dat w6 t u D from fun i hi => HDAT.out i (by omega)).ones who)
      have HO2 := Lib.hid ((show Dat w6 (m - t1) (fun i => u (i + t1)) (fun i => D (i + t1)) from fun i hi => HDAT.out (i + t1) (by omega)).ones (fun i => who (i + t1)))
      have HSVA := Lib.hid (show sv t who u ++ sv (m - t1) (fun i => who (i + t1)) (fun i => u (i + t1)) = sv (t + (m - t1)) (fun i => if i < t then who i else who (i - t + t1)) (fun i => if i < t then u i else u (i - t + t1)) from by rw [sv_append])
      have HDA := Lib.hid (show Dat w6 (t + (m - t1)) (fun i => if i < t then u i else u (i - t + t1)) (fun i => if i < t then D i else D (i - t + t1)) from fun i hi => by
        have h1 := HT1.out
        by_cases e : i < t
        · simp only [if_pos e]; exact HDAT.out i (by omega)
        · simp only [if_neg e]; exact HDAT.out _ (by omega))
      have HOP1 := Lib.hid (fun u' (g cg : Nat) (hu : Ext w6 u') (hcg : t + (m - t1) ≤ cg) (hr : SRd u' (some ⟨g, 0, none⟩) (lst5 (t + (m - t1)) (fun i => if i < t then who i else who (i - t + t1)) (fun i => if i < t then D i else D (i - t + t1)))) => HSHUT.out f u' g cg (t + (m - t1)) _ _ (HF6.out.ext hu) hr hcg (by omega) (fun i hi => by
        have h1 := HT1.out
        by_cases e : i < t
        · simp only [if_pos e]; rw [HDLE.out i (by omega)]; exact hns
        · simp only [if_neg e]; rw [HDLE.out _ (by omega)]; exact hns) (fun i hi => by
        have h1 := HT1.out
        by_cases e : i < t
        · simp only [if_pos e]; exact HWHO.out i (by omega)
        · simp only [if_neg e]; exact HWHO.out _ (by omega)) (shut_few (by have h1 := HT1.out; have := HFEW.out; omega)))
      have HEM := Lib.hid (World.ownsRow_lit (e := 24) (size := 2) w6.drew #[] 0 (Nat.le_refl _) (Nat.zero_le _) rfl)
      go_wp2 --MARKA
      go_region_law (first
        | (refine step_append_shs rfl (.tmp 102) (.tmp 105) rfl w6.heap.size _ 0 [] rfl HEM.out gb 0 t cap (sv t who u) rfl (sv_len _ _ _) (HC1.out.ext ((Ext.refl w6).drew.alloc _)) HO1.out (by omega) (by simp) ?_; intro v7 w7 hown7 hg7 hat7; rw [List.nil_append, Nat.zero_add] at hown7; have hx7 : Ext w6 w7 := ((Ext.refl w6).drew.alloc _).more hg7 (fun r e => (World.ownsRow.lt HEM.out r e).1))
        | (refine step_append_shs rfl (.tmp 106) (.tmp 110) rfl w6.heap.size v7 _ _ rfl hown7 gb o2 (m - t1) (cap - t1) _ rfl (sv_len _ _ _) (HC2.out.ext hx7) HO2.out (by omega) (by have := hx7.size; omega) ?_; intro v8 w8 hown8 hg8 hat8; have hx8 : Ext w6 w8 := hx7.more hg8 (fun r e => (World.ownsRow.lt hown7 r e).1); rw [HSVA.out] at hown8; obtain ⟨g8, cap8, rfl, hcap8, _, hs8, _, _⟩ := own_srd hown8 (by have h1 := HT1.out; omega) (HDA.out.ext hx8))
        | (go_simp; go_at_call 19; refine (HOP1.out _ g8 cap8 hx8 hcap8 hs8).mono ?_; rintro e w9 ⟨v9, rfl, ⟨B9, c9, rfl, _, _⟩, hx9⟩))
      all_goals
        have HX9 := Lib.hid (hx8.trans hx9)
        clear hx9 hs8 hown8 hg8 hat8 hx8 hown7 hg7 hat7 hx7
        have HC9 := Lib.hid (HCRD.out.ext HX9.out)
        obtain ⟨Bt, ctt, hut, hctt, hrt⟩ := HDAT.out t htm
        rw [HDLE.out t htm] at hut hctt
        have k1 : w9.cell? ⟨gb, t * 2, none⟩ = some (.int .i64 ((who t : Nat) : Int)) := by
          have h := HC9.out (t * 2) _ (sv_at who u m t htm).1
          rwa [Nat.zero_add] at h
        have k2 : w9.cell? ⟨gb, t * 2 + 1, none⟩ = some (.slice Bt ns ctt) := by
          have h := HC9.out (t * 2 + 1) _ (sv_at who u m t htm).2
          rwa [Nat.zero_add, hut] at h
        have n1 : (w9.alloc (.cells #[] 24)).drew.cell? ⟨gb, t * 2, none⟩ = some (.int .i64 ((who t : Nat) : Int)) := ((((Ext.refl w9).alloc _).drew).below.cell (p := ⟨gb, t * 2, none⟩) (block_lt_of_cell k1)).trans k1
        have n2 : (w9.alloc (.cells #[] 24)).drew.cell? ⟨gb, t * 2 + 1, none⟩ = some (.slice Bt ns ctt) := ((((Ext.refl w9).alloc _).drew).below.cell (p := ⟨gb, t * 2 + 1, none⟩) (block_lt_of_cell k2)).trans k2
        have HUT := Lib.hid hut
        have HRT := Lib.hid hrt
        have HOM := Lib.hid (HDAT.out.ones who)
        have HSVB := Lib.hid (show sv m who u ++ sv 1 (fun _ => who t) (fun _ => .slice Bt ns ctt) = sv (m + 1) (fun i => if i < m then who i else who t) (fun i => if i < m then u i else .slice Bt ns ctt) from sv_append _ _ _ _ _ _)
        have HDB := Lib.hid (show Dat w6 (m + 1) (fun i => if i < m then u i else .slice Bt ns ctt) (fun i => if i < m then D i else D t) from fun i hi => by
          by_cases e : i < m
          · simp only [if_pos e]; exact HDAT.out i e
          · simp only [if_neg e]
            have h := HDAT.out t htm
            rw [HUT.out] at h
            exact h)
        have HOP2 := Lib.hid (fun u' (g cg : Nat) (hu : Ext w6 u') (hcg : m + 1 ≤ cg) (hr : SRd u' (some ⟨g, 0, none⟩) (lst5 (m + 1) (fun i => if i < m then who i else who t) (fun i => if i < m then D i else D t))) => HSHUT.out f u' g cg (m + 1) _ _ (HF6.out.ext hu) hr hcg (by omega) (fun i hi => by
          by_cases e : i < m
          · simp only [if_pos e]; rw [HDLE.out i e]; exact hns
          · simp only [if_neg e]; rw [HDLE.out t htm]; exact hns) (fun i hi => by
          by_cases e : i < m
          · simp only [if_pos e]; exact HWHO.out i e
          · simp only [if_neg e]; exact HWHO.out t htm) (shut_twice (i := m) (j := t) htm (by omega) (by simp only [if_pos htm, if_neg (Nat.lt_irrefl m)])))
        have HEA := Lib.hid (World.ownsRow_lit (base := w9.heap.size) (e := 24) (size := 2) w9.drew #[] 0 (Nat.le_refl _) (Nat.zero_le _) rfl)
        have HEB := Lib.hid (ownsRow_ext HEA.out ((Ext.refl _).alloc (.cells #[.int .i64 ((who t : Nat) : Int), .slice Bt ns ctt] 24)))
        have HEC := Lib.hid (show ((w9.drew.alloc (.cells #[.int .i64 ((who t : Nat) : Int), .slice Bt ns ctt] 24)).alloc (.cells #[] 24)).ownsRow w9.heap.size 24 2 (.slice (some ⟨w9.heap.size + 1, 0, none⟩) 0 0) 0 [] from by
          have h := World.ownsRow_lit (base := w9.heap.size) (e := 24) (size := 2) (w9.drew.alloc (.cells #[.int .i64 ((who t : Nat) : Int), .slice Bt ns ctt] 24)) #[] 0 (by simp) (Nat.zero_le _) rfl
          rw [show (w9.drew.alloc (.cells #[.int .i64 ((who t : Nat) : Int), .slice Bt ns ctt] 24)).heap.size = w9.heap.size + 1 from by simp] at h
          exact h)
        have HLB := Lib.hid (show CRd ((w9.drew.alloc (.cells #[] 24)).alloc (.cells #[.int .i64 ((who t : Nat) : Int), .slice Bt ns ctt] 24)) (w9.heap.size + 1) 0 (sv 1 (fun _ => who t) (fun _ => .slice Bt ns ctt)) from by
          have h := crd_lit (w9.drew.alloc (.cells #[] 24)) [.int .i64 ((who t : Nat) : Int), .slice Bt ns ctt] 24
          rw [show (w9.drew.alloc (.cells #[] 24)).heap.size = w9.heap.size + 1 from by simp] at h
          exact h)
        have HLC := Lib.hid (show CRd ((w9.drew.alloc (.cells #[.int .i64 ((who t : Nat) : Int), .slice Bt ns ctt] 24)).alloc (.cells #[] 24)) w9.heap.size 0 (sv 1 (fun _ => who t) (fun _ => .slice Bt ns ctt)) from
          (crd_lit w9.drew [.int .i64 ((who t : Nat) : Int), .slice Bt ns ctt] 24).ext ((Ext.refl _).alloc _))
        have HO1L := Lib.hid (show ∀ x ∈ sv 1 (fun _ => who t) (fun _ => Value.slice Bt ns ctt), x.oneCell' = true from fun x hx => by
          have hx' : x ∈ [Value.int .i64 ((who t : Nat) : Int), Value.slice Bt ns ctt] := hx
          simp at hx'
          rcases hx' with rfl | rfl <;> rfl)
        have hzz : w9.heap.size ≤ w9.heap.size + 1 := by omega
        clear hut hrt hto hfrom
        go_wp2
        go_region_law (first
          | (refine step_append_shs rfl (.tmp 121) (.tmp 122) rfl w9.heap.size _ 0 [] rfl HEA.out gb 0 m cap (sv m who u) rfl (sv_len _ _ _) (HC9.out.ext ((Ext.refl w9).drew.alloc _)) HOM.out (by omega) (by simp) ?_; intro v10 w10 hown10 hg10 hat10; rw [List.nil_append, Nat.zero_add] at hown10; have hx10 : Ext w9 w10 := ((Ext.refl w9).drew.alloc _).more hg10 (fun r e => (World.ownsRow.lt HEA.out r e).1); have m1 : w10.cell? ⟨gb, t * 2, none⟩ = some (.int .i64 ((who t : Nat) : Int)) := (hx10.below.cell (p := ⟨gb, t * 2, none⟩) (block_lt_of_cell k1)).trans k1; have m2 : w10.cell? ⟨gb, t * 2 + 1, none⟩ = some (.slice Bt ns ctt) := (hx10.below.cell (p := ⟨gb, t * 2 + 1, none⟩) (block_lt_of_cell k2)).trans k2)
          | (refine step_append_shs rfl (.tmp 121) (.tmp 122) rfl w9.heap.size _ 0 [] rfl HEB.out gb 0 m cap (sv m who u) rfl (sv_len _ _ _) (HC9.out.ext (((Ext.refl w9).drew.alloc _).alloc _)) HOM.out (by omega) (by simp; omega) ?_; intro v10 w10 hown10 hg10 hat10; rw [List.nil_append, Nat.zero_add] at hown10; have hx10 : Ext w9 w10 := (((Ext.refl w9).drew.alloc _).alloc _).more hg10 (fun r e => (World.ownsRow.lt HEB.out r e).1); have hl10 : CRd w10 (w9.heap.size + 1) 0 (sv 1 (fun _ => who t) (fun _ => .slice Bt ns ctt)) := fun j x hj => hg10.cell (HLB.out j x hj) (fun e => by have e' : some (w9.heap.size + 1) = some w9.heap.size := e; injection e' with e'; omega))
          | (refine step_append_shs rfl (.tmp 121) (.tmp 122) rfl w9.heap.size _ 0 [] rfl HEC.out gb 0 m cap (sv m who u) rfl (sv_len _ _ _) (HC9.out.ext (((Ext.refl w9).drew.alloc _).alloc _)) HOM.out (by omega) (by simp; omega) ?_; intro v10 w10 hown10 hg10 hat10; rw [List.nil_append, Nat.zero_add] at hown10; have hx10 : Ext w9 w10 := (((Ext.refl w9).drew.alloc _).alloc _).more hg10 (fun r e => (World.ownsRow.lt HEC.out r e).1); have hl10 : CRd w10 w9.heap.size 0 (sv 1 (fun _ => who t) (fun _ => .slice Bt ns ctt)) := fun j x hj => hg10.cell (HLC.out j x hj) (fun e => by have e' : some w9.heap.size = some (w9.heap.size + 1) := e; injection e' with e'; omega))
          | (refine step_append_shs rfl (.tmp 123) (.tmp 128) rfl w9.heap.size v10 m _ rfl (ownsRow_ext hown10 ((Ext.refl _).alloc _)) w10.heap.size 0 1 1 (sv 1 (fun _ => who t) (fun _ => .slice Bt ns ctt)) rfl rfl (crd_lit w10 [.int .i64 ((who t : Nat) : Int), .slice Bt ns ctt] 24) HO1L.out (by omega) (by have := hx10.size; simp; omega) ?_; intro v11 w11 hown11 hg11 hat11; have hx11 : Ext w6 w11 := HX9.out.trans ((hx10.alloc _).more hg11 (fun r e => (World.ownsRow.lt hown10 r e).1)); rw [HSVB.out] at hown11; obtain ⟨g11, cap11, rfl, hcap11, _, hs11, _, _⟩ := own_srd hown11 (by omega) (HDB.out.ext hx11))
          | (refine step_append_shs rfl (.tmp 123) (.tmp 128) rfl w9.heap.size v10 m _ rfl hown10 _ 0 1 1 (sv 1 (fun _ => who t) (fun _ => .slice Bt ns ctt)) rfl rfl hl10 HO1L.out (by omega) (by have := hx10.size; omega) ?_; intro v11 w11 hown11 hg11 hat11; have hx11 : Ext w6 w11 := HX9.out.trans (hx10.more hg11 (fun r e => (World.ownsRow.lt hown10 r e).1)); rw [HSVB.out] at hown11; obtain ⟨g11, cap11, rfl, hcap11, _, hs11, _, _⟩ := own_srd hown11 (by omega) (HDB.out.ext hx11))
          | (go_simp; go_at_call 19; refine (HOP2.out _ g11 cap11 hx11 hcap11 hs11).mono ?_; rintro e w12 ⟨v12, rfl, ⟨B12, c12, rfl, _, _⟩, hx12⟩))
        all_goals
          have HX12 := Lib.hid (hx11.trans hx12)
          clear hx12 hs11 hown11 hg11 hat11 hx11 hown10 hg10 hat10 hx10
          have HC12 := Lib.hid (HCRD.out.ext HX12.out)
          have HEM12 := Lib.hid (World.ownsRow_lit (base := w12.heap.size) (e := 24) (size := 2) w12 #[] 0 (Nat.le_refl _) (Nat.zero_le _) rfl)
          obtain ⟨X, hX, hXr⟩ := run_tail_u8 Bt ns ctt hns1 hctt
          have HXR2 := Lib.hid (fun w' (hw : Ext w6 w') => hXr w' (D t) (HRT.out.ext hw) (HDLE.out t htm))
          clear hXr k1 k2 n1 n2
          go_wp2_with (at_builtin; refine wpList_append_shs rfl (.tmp 137) (.tmp 138) rfl w12.heap.size _ 0 [] rfl HEM12.out gb 0 m cap (sv m who u) rfl (sv_len _ _ _) (HC12.out.ext ((Ext.refl w12).alloc _)) HOM.out (by omega) (by simp) ?_; intro v15 w15 hown15 hg15 hat15
                       rw [List.nil_append, Nat.zero_add] at hown15
                       have hx15 : Ext w12 w15 := ((Ext.refl w12).alloc _).more hg15 (fun r e => (World.ownsRow.lt HEM12.out r e).1)
                       obtain ⟨g15, cap15, e15, hcap15, hgb15, hs15, hcr15, hfz15⟩ := own_srd hown15 (by omega) (HDAT.out.ext (HX12.out.trans hx15))
                       subst e15
                       have kk1 : w15.cell? ⟨g15, t * 2 + 1, none⟩ = some (.slice Bt ns ctt) := by
                         have h := hcr15 (t * 2 + 1) _ (sv_at who u m t htm).2
                         rwa [Nat.zero_add, HUT.out] at h
                       have kk2 := hfz15 (t * 2 + 1)
                       have HCR15 := Lib.hid hcr15
                       have HX15 := Lib.hid (HX12.out.trans hx15)
                       have hgg : w6.heap.size ≤ g15 := by have := HX12.out.size; omega
                       clear hown15 hg15 hat15 hx15 hs15 hcr15 hfz15)
          have HX16 := Lib.hid (HX15.out.setCell (p := ⟨g15, t * 2 + 1, none⟩) hgg (.slice X (ns - 1) (ctt - 1)))
          have HS16 := Lib.hid (show SRd (w15.setCell ⟨g15, t * 2 + 1, none⟩ (.slice X (ns - 1) (ctt - 1))) (some ⟨g15, 0, none⟩) (lst5 m who (fun i => if i = t then tab (ns - 1) (fun j => co (D t) (1 + j)) else D i)) from fun i hi => by
            rw [lst5_len] at hi
            rw [(lst5_at m who _ i hi).1, (lst5_at m who _ i hi).2]
            have a1 := HCR15.out (i * 2) _ (sv_at who u m i hi).1
            have a2 := HCR15.out (i * 2 + 1) _ (sv_at who u m i hi).2
            rw [Nat.zero_add] at a1 a2
            by_cases e : i = t
            · subst e
              simp only [eq_self, if_true]
              refine ⟨g15, 0, X, ctt - 1, rfl, ?_, ?_, by rw [tab_len]; omega, HXR2.out _ HX16.out⟩
              · rw [Nat.zero_add, World.cell?_setCell_other _ _ _ _ (fun h => by injection h with _ h; omega)]; exact a1
              · rw [Nat.zero_add, tab_len]; exact World.cell?_setCell_same' _ _ _ (by rw [a2]; rfl)
            · simp only [if_neg e]
              obtain ⟨Bi, ci, h1, h2, h3⟩ := HDAT.out i hi
              refine ⟨g15, 0, Bi, ci, rfl, ?_, ?_, h2, h3.ext HX16.out⟩
              · rw [Nat.zero_add, World.cell?_setCell_other _ _ _ _ (fun h => by injection h with _ h; omega)]; exact a1
              · rw [Nat.zero_add, World.cell?_setCell_other _ _ _ _ (fun h => by injection h with _ h; omega), a2, h1])
          have HOP3 := Lib.hid (HSHUT.out f _ g15 cap15 m who _ (HF6.out.ext HX16.out) HS16.out hcap15 (by omega) (fun i hi => by
            by_cases e : i = t
            · simp only [if_pos e]; rw [tab_len]; omega
            · simp only [if_neg e]; rw [HDLE.out i hi]; exact hns) (fun i hi => HWHO.out i hi) (shut_long (i := t) htm (by simp only [eq_self, if_true]; rw [tab_len]; omega)))
          go_wp2_with fail
          refine HOP3.out.mono ?_
          rintro e w17 ⟨v17, rfl, ⟨B17, c17, rfl, _, _⟩, hx17⟩
          have HX17 := Lib.hid (HX16.out.trans hx17)
          clear hx17 hX kk1 kk2
          go_wp2
          go_ret
          exact ⟨rfl, HX6.out.trans HX17.out⟩
end Go.Proofs.Ytffdmhcbcaemfaa
