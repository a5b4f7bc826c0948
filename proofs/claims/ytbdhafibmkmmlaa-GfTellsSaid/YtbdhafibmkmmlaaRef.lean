/-
  The document's own answers for layer 1, as the statements hold them: the product bit by bit, the power by squares, the inverse and the logarithm by trying. Conditions: none beyond the kinds of the arguments.
-/
import Derived.Test.YtbdhafibmkmmlaaNat
namespace Go.Proofs.Ytbdhafibmkmmlaa
open Go.RowKit

theorem i64_xor (a b : Nat) (ha : a < 512) (hb : b < 512) : bits .xor .i64 (a : Int) (b : Int) = ((a ^^^ b : Nat) : Int) := by
  have hx : a ^^^ b < 2 ^ 9 := Nat.xor_lt_two_pow (by omega) (by omega)
  have h : ∀ c : Nat, c < 512 → (BitVec.ofInt 64 (c : Int)).toNat = c := fun c hc => by
    rw [BitVec.ofInt_natCast, BitVec.toNat_ofNat]; exact Nat.mod_eq_of_lt (by omega)
  show IntKind.i64.wrap ((BitVec.ofInt 64 (a : Int) ^^^ BitVec.ofInt 64 (b : Int)).toNat : Int) = _
  rw [BitVec.toNat_xor, h a ha, h b hb]
  exact IntWalk.i64_in _ (by omega)

theorem dbl_low (x : Nat) (h : x < 128) : Gf.dbl x = x * 2 := by
  unfold Gf.dbl; rw [if_pos h, Nat.xor_zero]; omega
theorem dbl_high : ∀ x, x < 256 → 128 ≤ x → (x * 2) ^^^ 283 = Gf.dbl x := by decide +kernel

def MulAt (a b : Nat) (o x y : Value) : Prop := ∃ p q r : Nat, p < 256 ∧ q < 256 ∧ r < 256 ∧ o = .int .i64 (p : Int) ∧ x = .int .i64 (q : Int) ∧ y = .int .i64 (r : Int) ∧ p ^^^ Gf.mul q r = Gf.mul a b

set_option maxHeartbeats 400000 in
set_option maxRecDepth 100000 in
theorem ref_mul (a b : Nat) (ha : a < 256) (hb : b < 256) (w : World) :
    Calls Try.prog 16 #[.int .u8 (a : Int), .int .u8 (b : Int)] w fun e w' => e = .returned (.int .u8 ((Gf.mul a b : Nat) : Int)) ∧ w = w' := by
  have haI : (a : Int) < 256 := by omega
  have hbI : (b : Int) < 256 := by omega
  go_enter Try.func16, Try.ntmps16
  go_wp2
  go_loop [5, 6, 7] (fun o x y => MulAt a b o x y) (fun _ _ y => (intOf y).toNat)
  case atStart => exact ⟨0, a, b, by omega, ha, hb, rfl, rfl, rfl, by rw [Nat.zero_xor]⟩
  case round =>
    obtain ⟨p, q, r, hp, hq, hr, rfl, rfl, rfl, hinv⟩ := hrel
    have HI := Lib.hid hinv
    clear hinv
    by_cases r0 : r = 0
    · subst r0
      have hpI : (p : Int) < 256 := by omega
      go_wp2
      go_ret
      exact ⟨ret_int (by rw [← HI.out, Gf.mul_zero, Nat.xor_zero]), rfl⟩
    · have hs := Gf.mul_step q r hq hr
      have HS := Lib.hid hs
      clear hs
      have hr0 : (0 : Int) < (r : Int) := by omega
      have hrI : (r : Int) < 256 := by omega
      have hqI : (q : Int) < 256 := by omega
      have hpI : (p : Int) < 256 := by omega
      have hd := Gf.dbl_lt q hq
      have HDL := Lib.hid hd
      clear hd
      have hx := i64_xor p q (by omega) (by omega)
      have hpq := Gf.xor_lt p q hp hq
      have HPQ := Lib.hid hpq
      clear hpq
      have HX := Lib.hid hx
      clear hx
      by_cases hodd : r % 2 = 1
      · have ho : ((r : Int) % 2 == 1) = true := beq_iff_eq.2 (by omega)
        have HO := Lib.hid hodd
        clear hodd
        by_cases hlow : q < 128
        · skip
          have hlI : (q : Int) < 128 := by omega
          have hlt : ¬ (255 : Int) < (q : Int) * 2 := by omega
          have hdl := dbl_low q hlow
          have HD := Lib.hid hdl
          clear hdl
          go_wp2
          go_round
          case rel => exact ⟨(p ^^^ q), Gf.dbl q, r / 2, HPQ.out, HDL.out, by omega, congrArg (Value.int IntKind.i64) HX.out, congrArg (Value.int IntKind.i64) (by rw [HD.out]; omega), by go_num, by rw [← HI.out, HS.out, if_pos HO.out, Nat.xor_assoc]⟩
          case measure => simp [intOf]; omega
        · skip
          have hlI : (128 : Int) ≤ (q : Int) := by omega
          have hlt : (255 : Int) < (q : Int) * 2 := by omega
          have hdl := dbl_high q hq (by omega)
          have hy := i64_xor (q * 2) 283 (by omega) (by omega)
          have HY := Lib.hid hy
          clear hy
          have HD := Lib.hid hdl
          clear hdl
          go_wp2
          go_round
          case rel => exact ⟨(p ^^^ q), Gf.dbl q, r / 2, HPQ.out, HDL.out, by omega, congrArg (Value.int IntKind.i64) HX.out, congrArg (Value.int IntKind.i64) (by rw [← HD.out, ← HY.out]; congr 1), by go_num, by rw [← HI.out, HS.out, if_pos HO.out, Nat.xor_assoc]⟩
          case measure => simp [intOf]; omega
      · have ho : ((r : Int) % 2 == 1) = false := beq_eq_false_iff_ne.2 (by omega)
        have HO := Lib.hid hodd
        clear hodd
        by_cases hlow : q < 128
        · skip
          have hlI : (q : Int) < 128 := by omega
          have hlt : ¬ (255 : Int) < (q : Int) * 2 := by omega
          have hdl := dbl_low q hlow
          have HD := Lib.hid hdl
          clear hdl
          go_wp2
          go_round
          case rel => exact ⟨p, Gf.dbl q, r / 2, hp, HDL.out, by omega, rfl, congrArg (Value.int IntKind.i64) (by rw [HD.out]; omega), by go_num, by rw [← HI.out, HS.out, if_neg HO.out, Nat.zero_xor]⟩
          case measure => simp [intOf]; omega
        · skip
          have hlI : (128 : Int) ≤ (q : Int) := by omega
          have hlt : (255 : Int) < (q : Int) * 2 := by omega
          have hdl := dbl_high q hq (by omega)
          have hy := i64_xor (q * 2) 283 (by omega) (by omega)
          have HY := Lib.hid hy
          clear hy
          have HD := Lib.hid hdl
          clear hdl
          go_wp2
          go_round
          case rel => exact ⟨p, Gf.dbl q, r / 2, hp, HDL.out, by omega, rfl, congrArg (Value.int IntKind.i64) (by rw [← HD.out, ← HY.out]; congr 1), by go_num, by rw [← HI.out, HS.out, if_neg HO.out, Nat.zero_xor]⟩
          case measure => simp [intOf]; omega

theorem ref_mul_is (a b v : Nat) (ha : a < 256) (hb : b < 256) (h : Gf.mul a b = v) (w : World) :
    Calls Try.prog 16 #[.int .u8 (a : Int), .int .u8 (b : Int)] w fun e w' => e = .returned (.int .u8 (v : Int)) ∧ w = w' := h ▸ ref_mul a b ha hb w

theorem half_u64 (q : Nat) (h : q < 18446744073709551616) : IntKind.u64.wrap ((q : Int) / 2) = ((q / 2 : Nat) : Int) := by
  rw [IntWalk.u64_in _ (by omega)]; omega

def PowAt (a n : Nat) (x m o : Value) : Prop := ∃ p q r : Nat, p < 256 ∧ r < 256 ∧ q < 18446744073709551616 ∧ x = .int .u8 (p : Int) ∧ m = .int .u64 (q : Int) ∧ o = .int .u8 (r : Int) ∧ Gf.mul r (Gf.pow p q) = Gf.pow a n

set_option maxHeartbeats 400000 in
set_option maxRecDepth 100000 in
theorem ref_pow (a n : Nat) (ha : a < 256) (hn : n < 18446744073709551616) (w : World) :
    Calls Try.prog 21 #[.int .u8 (a : Int), .int .u64 (n : Int)] w fun e w' => e = .returned (.int .u8 ((Gf.pow a n : Nat) : Int)) ∧ w = w' := by
  have HN := Lib.hid hn
  clear hn
  go_enter Try.func21, Try.ntmps21
  go_wp2
  go_loop [0, 1, 5] (fun x m o => PowAt a n x m o) (fun _ m _ => (intOf m).toNat)
  case atStart => exact ⟨a, n, 1, ha, by omega, HN.out, rfl, rfl, rfl, Gf.one_mul _ (Gf.pow_lt _ _)⟩
  case round =>
    obtain ⟨p, q, r, hp, hr, hql, rfl, rfl, rfl, hinv⟩ := hrel
    have HI := Lib.hid hinv
    have hw := half_u64 q hql
    have HW := Lib.hid hw
    have HL := Lib.hid hql
    clear hinv hw hql
    by_cases q0 : q = 0
    · subst q0
      go_wp2
      go_ret
      exact ⟨ret_int (by rw [← HI.out, Gf.pow_zero, Gf.mul_one r hr]), rfl⟩
    · have hs := Gf.pow_step r p q hr hp
      have HS := Lib.hid hs
      clear hs
      have hq0 : (0 : Int) < (q : Int) := by omega
      by_cases hodd : q % 2 = 1
      · have ho : ((q : Int) % 2 == 1) = true := beq_iff_eq.2 (by omega)
        have HO := Lib.hid hodd
        clear hodd
        go_wp2_with fail
        refine (ref_mul r p hr hp _).mono ?_
        rintro e w' ⟨rfl, rfl⟩
        go_wp2_with fail
        refine (ref_mul p p hp hp _).mono ?_
        rintro e w' ⟨rfl, rfl⟩
        go_wp2_with fail
        go_round
        case rel => exact ⟨Gf.mul p p, q / 2, Gf.mul r p, Gf.mul_lt _ _, Gf.mul_lt _ _, by have := HL.out; omega, rfl, congrArg (Value.int IntKind.u64) HW.out, rfl, by rw [← HI.out, HS.out, if_pos HO.out]⟩
        case measure => simp only [intOf]; rw [HW.out]; omega
      · have ho : ((q : Int) % 2 == 1) = false := beq_eq_false_iff_ne.2 (by omega)
        have HO := Lib.hid hodd
        clear hodd
        go_wp2_with fail
        refine (ref_mul p p hp hp _).mono ?_
        rintro e w' ⟨rfl, rfl⟩
        go_wp2_with fail
        go_round
        case rel => exact ⟨Gf.mul p p, q / 2, r, Gf.mul_lt _ _, hr, by have := HL.out; omega, rfl, congrArg (Value.int IntKind.u64) HW.out, rfl, by rw [← HI.out, HS.out, if_neg HO.out]⟩
        case measure => simp only [intOf]; rw [HW.out]; omega

/-! The inverse, by trying. -/
def Tried (a : Nat) (i : Value) : Prop := ∃ k : Nat, k ≤ 256 ∧ i = .int .i64 (k : Int) ∧ ∀ j, j < k → Gf.mul a j ≠ 1

set_option maxHeartbeats 400000 in
set_option maxRecDepth 100000 in
theorem ref_inv (a : Nat) (ha : a < 256) (a0 : a ≠ 0) (w : World) :
    Calls Try.prog 15 #[.int .u8 (a : Int)] w fun e w' => e = .returned (.tuple #[.int .u8 ((Gf.quo 1 a : Nat) : Int), .bool true]) ∧ w = w' := by
  go_enter Try.func15, Try.ntmps15
  go_wp2
  go_loop [4] (fun i => Tried a i) (fun i => 256 - (intOf i).toNat)
  case atStart => exact ⟨0, by omega, rfl, fun j h => by omega⟩
  case round =>
    obtain ⟨k, hk, rfl, hno⟩ := hrel
    have hq := Gf.quo_mul 1 a (by omega) ha a0
    have hql := Gf.quo_lt 1 a
    by_cases he : k = 256
    · exact absurd ((Gf.mul_comm _ _).trans hq) (hno _ (by omega))
    have hkI : (k : Int) < 256 := by omega
    by_cases h1 : Gf.mul a k = 1
    · have hv : Gf.quo 1 a = k := Gf.quo_of 1 a k (by omega) ha a0 (by omega) ((Gf.mul_comm _ _).trans h1)
      have HV := Lib.hid hv
      have H1 := Lib.hid h1
      clear hv h1 hq hno hql
      go_wp2_with fail
      refine (ref_mul_is a k 1 ha (by omega) H1.out _).mono ?_
      rintro e w' ⟨rfl, rfl⟩
      go_wp2_with fail
      go_ret2
      exact ⟨by rw [HV.out]; rfl, rfl⟩
    · have hne : (((Gf.mul a k : Nat) : Int) == 1) = false := beq_eq_false_iff_ne.2 (by omega)
      have HN := Lib.hid hno
      have H1 := Lib.hid h1
      clear hno h1 hq hql
      go_wp2_with fail
      refine (ref_mul a k ha (by omega) _).mono ?_
      rintro e w' ⟨rfl, rfl⟩
      go_wp2_with fail
      go_round
      case rel => exact ⟨k + 1, by omega, by go_num, fun j hj => by
        by_cases e : j = k
        · subst e; exact H1.out
        · exact HN.out j (by omega)⟩
      case measure => simp [intOf]; omega

set_option maxHeartbeats 400000 in
set_option maxRecDepth 100000 in
theorem ref_inv_zero (w : World) :
    Calls Try.prog 15 #[.int .u8 0] w fun e w' => e = .returned (.tuple #[.int .u8 0, .bool false]) ∧ w = w' := by
  go_enter Try.func15, Try.ntmps15
  go_wp2
  go_loop [4] (fun i => Tried 0 i) (fun i => 256 - (intOf i).toNat)
  case atStart => exact ⟨0, by omega, rfl, fun j h => by omega⟩
  case round =>
    obtain ⟨k, hk, rfl, hno⟩ := hrel
    clear hno
    by_cases he : k = 256
    · subst he
      go_wp2_with fail
      go_ret2
      exact ⟨rfl, rfl⟩
    have hkI : (k : Int) < 256 := by omega
    go_wp2_with fail
    refine (ref_mul_is 0 k 0 (by omega) (by omega) (Gf.zero_mul k) _).mono ?_
    rintro e w' ⟨rfl, rfl⟩
    go_wp2_with fail
    go_round
    case rel => exact ⟨k + 1, by omega, by go_num, fun j _ => by rw [Gf.zero_mul]; omega⟩
    case measure => simp [intOf]; omega

/-! The logarithm, by trying. -/
def Sought (a : Nat) (x i : Value) : Prop := ∃ k : Nat, k ≤ 255 ∧ i = .int .i64 (k : Int) ∧ x = .int .u8 ((Gf.pw k : Nat) : Int) ∧ ∀ j, j < k → Gf.pw j ≠ a

set_option maxHeartbeats 400000 in
set_option maxRecDepth 100000 in
theorem ref_log (a : Nat) (ha : a < 256) (a0 : a ≠ 0) (w : World) :
    Calls Try.prog 17 #[.int .u8 (a : Int)] w fun e w' => e = .returned (.int .i64 ((Gf.lg a : Nat) : Int)) ∧ w = w' := by
  go_enter Try.func17, Try.ntmps17
  go_wp2
  go_loop [3, 4] (fun x i => Sought a x i) (fun _ i => 255 - (intOf i).toNat)
  case atStart => exact ⟨0, by omega, rfl, rfl, fun j h => by omega⟩
  case round =>
    obtain ⟨k, hk, rfl, rfl, hno⟩ := hrel
    by_cases he : k = 255
    · exact absurd (Gf.pw_lg a ha a0) (hno _ (by have := Gf.lg_lt a; omega))
    have hkI : (k : Int) < 255 := by omega
    have hb := (Gf.pw_bd k).2
    have hm := (Gf.mul_comm (Gf.pw k) 3).trans (Gf.mul_three (Gf.pw k) hb)
    have HM := Lib.hid hm
    clear hm
    by_cases h1 : Gf.pw k = a
    · have hv : Gf.lg a = k := by rw [← h1]; exact Gf.lg_pw k (by omega)
      have HV := Lib.hid hv
      have H1 := Lib.hid h1
      have ht : (((Gf.pw k : Nat) : Int) == (a : Int)) = true := beq_iff_eq.2 (by omega)
      clear hv h1 hno
      go_wp2_with fail
      go_ret
      exact ⟨by rw [HV.out]; rfl, rfl⟩
    · have ht : (((Gf.pw k : Nat) : Int) == (a : Int)) = false := beq_eq_false_iff_ne.2 (by omega)
      have HN := Lib.hid hno
      have H1 := Lib.hid h1
      clear hno h1
      go_wp2_with fail
      refine (ref_mul_is (Gf.pw k) 3 (Gf.pw (k + 1)) hb (by omega) HM.out _).mono ?_
      rintro e w' ⟨rfl, rfl⟩
      go_wp2_with fail
      go_round
      case rel => exact ⟨k + 1, by omega, by go_num, rfl, fun j hj => by
        by_cases e : j = k
        · subst e; exact H1.out
        · exact HN.out j (by omega)⟩
      case measure => simp [intOf]; omega

set_option maxHeartbeats 400000 in
set_option maxRecDepth 100000 in
theorem ref_log_zero (w : World) :
    Calls Try.prog 17 #[.int .u8 0] w fun e w' => e = .returned (.int .i64 (-1)) ∧ w = w' := by
  go_enter Try.func17, Try.ntmps17
  go_wp2
  go_loop [3, 4] (fun x i => Sought 0 x i) (fun _ i => 255 - (intOf i).toNat)
  case atStart => exact ⟨0, by omega, rfl, rfl, fun j h => by omega⟩
  case round =>
    obtain ⟨k, hk, rfl, rfl, hno⟩ := hrel
    clear hno
    by_cases he : k = 255
    · subst he
      go_wp2_with fail
      go_ret
      exact ⟨rfl, rfl⟩
    have hkI : (k : Int) < 255 := by omega
    have hb := (Gf.pw_bd k).2
    have h0 := (Gf.pw_bd k).1
    have hm := (Gf.mul_comm (Gf.pw k) 3).trans (Gf.mul_three (Gf.pw k) hb)
    have HM := Lib.hid hm
    have ht : (((Gf.pw k : Nat) : Int) == 0) = false := beq_eq_false_iff_ne.2 (by omega)
    clear hm h0
    go_wp2_with fail
    refine (ref_mul_is (Gf.pw k) 3 (Gf.pw (k + 1)) hb (by omega) HM.out _).mono ?_
    rintro e w' ⟨rfl, rfl⟩
    go_wp2_with fail
    go_round
    case rel => exact ⟨k + 1, by omega, by go_num, rfl, fun j _ => (Gf.pw_bd j).1⟩
    case measure => simp [intOf]; omega
end Go.Proofs.Ytbdhafibmkmmlaa
