/-
  What the document's own Through of layer 2 does: the polynomial through points of which no place is there twice. Conditions: no more than 2^16 points.
-/
import Derived.Test.YtagdialceelggaaPts
import Derived.Test.YtagdialceelggaaRAdd
import Derived.Test.YtagdialceelggaaRMul
import Derived.Test.YtagdialceelggaaRefInv
namespace Go.Proofs.Ytagdialceelggaa
open Go.RowKit
open Pol (co Sm px py Apart lag thr dd)

set_option maxHeartbeats 800000 in
set_option maxRecDepth 100000 in
theorem ref_through (l : List (Nat × Nat)) (A : Option Addr) (ca : Nat) (w : World) (ha : PRd w A l) (hl : l.length ≤ 65536) (hd : Apart l l.length) :
    Calls Try.prog 26 #[.slice A l.length ca] w (Gives (thr l l.length) w) := by
  generalize hnn : l.length = n at hl hd ⊢
  have HA := Lib.hid ha
  have HN := Lib.hid hnn
  have HD := Lib.hid hd
  clear ha hnn hd
  go_enter Try.func26, Try.ntmps26
  go_wp2
  go_loopg [3, 11] n (fun g s3 s11 wx => ∃ i : Nat, i + g = n ∧ s11 = .int .i64 (i : Int) ∧ Sl wx s3 (thr l i) ∧ Ext w wx)
  case atStart => exact ⟨0, by omega, rfl, ⟨none, 0, rfl, Nat.le_refl _, Rd.nil _ _⟩, Ext.refl _⟩
  case round =>
    obtain ⟨i, hig, rfl, ⟨V, cv, rfl, hcv, hrv⟩, hx⟩ := hrel
    have HX := Lib.hid hx
    have HV := Lib.hid hrv
    have HC := Lib.hid hcv
    clear hx hrv hcv
    cases gk with
    | zero =>
      obtain rfl : n = i := by omega
      clear hig
      go_wp2
      go_ret
      exact ⟨V, cv, rfl, HC.out, HV.out, HX.out⟩
    | succ g =>
      have hiI : (i : Int) < (n : Int) := by omega
      obtain ⟨b1, o1, e1, _, hcy⟩ := (HA.out.ext HX.out).2 i (by rw [HN.out]; omega)
      subst e1
      have hpy := (HA.out.1 i).2
      have hlag0 : Rd (wr.alloc (.cells #[.int .u8 ((py l i : Nat) : Int)] 5)) (some ⟨wr.heap.size, 0, none⟩) (lag l i 0) := rd_one wr _ hpy
      have HL0 := Lib.hid hlag0
      clear hlag0
      go_wp2
      go_loopg [5, 22] n (fun g s5 s22 wx => ∃ k : Nat, k + g = n ∧ s22 = .int .i64 (k : Int) ∧ Sl wx s5 (lag l i k) ∧ Ext wr wx)
      case atStart => exact ⟨0, by omega, rfl, ⟨_, 1, rfl, Nat.le_refl _, HL0.out⟩, (Ext.refl _).alloc _⟩
      case round =>
        obtain ⟨k, hkg, rfl, ⟨U, cu, rfl, hcu, hru⟩, hy⟩ := hrel
        have HY := Lib.hid hy
        have HU := Lib.hid hru
        have HCU := Lib.hid hcu
        clear hy hru hcu
        cases gk with
        | zero =>
          obtain rfl : n = k := by omega
          clear hkg
          have hlt : (thr l i).length ≤ 1048576 := by
            have h1 := Pol.trim_le (thr l i) l.length (Pol.thr_len l i (by rw [HN.out]; omega))
            rw [Pol.thr_trim, HN.out] at h1
            omega
          have hlu : (lag l i n).length ≤ 1048576 := by
            have h1 := Pol.lag_len l i n
            split at h1 <;> omega
          have HLT := Lib.hid hlt
          have HLU := Lib.hid hlu
          have hthr : thr l (i + 1) = Pol.trim (Pol.addP (thr l i) (lag l i n)) := by rw [thr, HN.out]
          have HTH := Lib.hid hthr
          clear hlt hlu hthr
          go_wp2_with fail
          refine (ref_add (thr l i) (lag l i n) V U cv cu _ (HV.out.ext HY.out) HU.out HLT.out HLU.out).mono ?_
          rintro e w2 ⟨B, c, rfl, hcB, hrB, hxB⟩
          have HB := Lib.hid hrB
          have HCB := Lib.hid hcB
          have HXB := Lib.hid hxB
          clear hrB hcB hxB
          go_wp2
          go_roundg g
          case measure => omega
          case rel => exact ⟨i + 1, by omega, by go_num, by rw [HTH.out]; exact ⟨B, c, rfl, HCB.out, HB.out⟩, (HX.out.trans HY.out).trans HXB.out⟩
        | succ h =>
          have hkI : (k : Int) < (n : Int) := by omega
          by_cases hki : k = i
          · have hne : ((k : Int) != (i : Int)) = false := by subst hki; simp
            have hlag : lag l i (k + 1) = lag l i k := by rw [lag, if_pos hki]
            have HLG := Lib.hid hlag
            clear hlag hki
            go_wp2
            go_roundg h
            case measure => omega
            case rel => exact ⟨k + 1, by omega, by go_num, by rw [HLG.out]; exact ⟨U, cu, rfl, HCU.out, HU.out⟩, HY.out⟩
          · have hne : ((k : Int) != (i : Int)) = true := by simp; omega
            have hlag : lag l i (k + 1) = Pol.trim (Pol.mulP (lag l i k) [Gf.mul (px l k) (dd l i k), dd l i k]) := by rw [lag, if_neg hki]
            have HLG := Lib.hid hlag
            obtain ⟨b2, o2, e2, hcx, _⟩ := (HA.out.ext (HX.out.trans HY.out)).2 i (by rw [HN.out]; omega)
            injection e2 with e2
            injection e2 with e3 e4
            subst e3
            subst e4
            obtain ⟨b2, o2, e2, hck, _⟩ := (HA.out.ext (HX.out.trans HY.out)).2 k (by rw [HN.out]; omega)
            injection e2 with e2
            injection e2 with e3 e4
            subst e3
            subst e4
            have hxor := u8_xor_nat (px l i) (px l k) (HA.out.1 i).1 (HA.out.1 k).1
            obtain ⟨z, hz⟩ : ∃ z, px l i ^^^ px l k = z := ⟨_, rfl⟩
            have hz1 : z < 256 := by rw [← hz]; exact Gf.xor_lt _ _ (HA.out.1 i).1 (HA.out.1 k).1
            have hz0 : z ≠ 0 := by rw [← hz]; exact fun e => HD.out.ne (by omega) (by omega) (fun h => hki h.symm) (Gf.xor_zero_iff _ _ e)
            have hdd : dd l i k = Gf.quo 1 z := by unfold dd; rw [hz]
            rw [hz] at hxor
            have HZ := Lib.hid hdd
            clear hlag hki hz hdd
            go_wp2
            go_quiet (first | (go_at_call 37; exact quiet_same (ref_inv z hz1 hz0 _)))
            have hlu : (lag l i k).length ≤ 524288 := by
              have h1 := Pol.lag_len l i k
              split at h1 <;> omega
            have hpk := (HA.out.1 k).1
            have hq1 := Gf.quo_lt 1 z
            have HLU := Lib.hid hlu
            clear hlu hcx hxor
            go_wp2_with fail
            refine (ref_mul (px l k) (Gf.quo 1 z) hpk hq1 _).mono ?_
            rintro e w2 ⟨rfl, rfl⟩
            go_wp2_with fail
            refine (ref_pmul (lag l i k) [Gf.mul (px l k) (Gf.quo 1 z), Gf.quo 1 z] U (some ⟨wr.heap.size, 0, none⟩) cu 2 _ ((HU.out.drewN nq).ext ((Ext.refl _).alloc _)) (rd_two (wr.drewN nq) _ _ (Gf.mul_lt _ _) hq1) HLU.out (by simp)).mono ?_
            rintro e w2 ⟨B, c, rfl, hcB, hrB, hxB⟩
            have HB := Lib.hid hrB
            have HCB := Lib.hid hcB
            have HXB := Lib.hid hxB
            clear hrB hcB hxB
            go_wp2
            go_roundg h
            case measure => omega
            case rel => exact ⟨k + 1, by omega, by go_num, by rw [HLG.out, HZ.out]; exact ⟨B, c, rfl, HCB.out, HB.out⟩, ((HY.out.drewN nq).alloc _).trans HXB.out⟩
end Go.Proofs.Ytagdialceelggaa
