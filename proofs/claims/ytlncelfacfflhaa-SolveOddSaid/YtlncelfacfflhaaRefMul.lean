/-
  The document's own answer for layer 1, as the statements hold it: the product bit by bit. Conditions: none beyond the kinds of the arguments.
-/
import Derived.Test.YtlncelfacfflhaaProg
import Derived.Test.YtlncelfacfflhaaMath
import Derived.Test.YtlncelfacfflhaaKit
namespace Go.Proofs.Ytlncelfacfflhaa
open Go.RowKit

theorem i64_xor (a b : Nat) (ha : a < 512) (hb : b < 512) : bits .xor .i64 (a : Int) (b : Int) = ((a ^^^ b : Nat) : Int) := by
  have hx : a ^^^ b < 2 ^ 9 := Nat.xor_lt_two_pow (by omega) (by omega)
  have h : ∀ c : Nat, c < 512 → (BitVec.ofInt 64 (c : Int)).toNat = c := fun c hc => by
    rw [BitVec.ofInt_natCast, BitVec.toNat_ofNat]; exact Nat.mod_eq_of_lt (by omega)
  show IntKind.i64.wrap ((BitVec.ofInt 64 (a : Int) ^^^ BitVec.ofInt 64 (b : Int)).toNat : Int) = _
  rw [BitVec.toNat_xor, h a ha, h b hb]
  exact IntWalk.i64_in _ (by omega)

theorem dbl_low (x : Nat) (h : x < 128) : Gf.dbl x = x * 2 := by
  unfold Gf.dbl; rw [if_pos h, Nat.xor_zero]; omega
theorem dbl_high : ∀ x, x < 256 → 128 ≤ x → (x * 2) ^^^ 283 = Gf.dbl x := by decide +kernel

def MulAt (a b : Nat) (o x y : Value) : Prop := ∃ p q r : Nat, p < 256 ∧ q < 256 ∧ r < 256 ∧ o = .int .i64 (p : Int) ∧ x = .int .i64 (q : Int) ∧ y = .int .i64 (r : Int) ∧ p ^^^ Gf.mul q r = Gf.mul a b

set_option maxHeartbeats 400000 in
set_option maxRecDepth 100000 in
theorem ref_mul (a b : Nat) (ha : a < 256) (hb : b < 256) (w : World) :
    Calls Try.prog 20 #[.int .u8 (a : Int), .int .u8 (b : Int)] w fun e w' => e = .returned (.int .u8 ((Gf.mul a b : Nat) : Int)) ∧ w = w' := by
  have haI : (a : Int) < 256 := by omega
  have hbI : (b : Int) < 256 := by omega
  go_enter Try.func20, Try.ntmps20
  go_wp2
  go_loop [5, 6, 7] (fun o x y => MulAt a b o x y) (fun _ _ y => (intOf y).toNat)
  case atStart => exact ⟨0, a, b, by omega, ha, hb, rfl, rfl, rfl, by rw [Nat.zero_xor]⟩
  case round =>
    obtain ⟨p, q, r, hp, hq, hr, rfl, rfl, rfl, hinv⟩ := hrel
    have HI := Lib.hid hinv
    clear hinv
    by_cases r0 : r = 0
    · subst r0
      have hpI : (p : Int) < 256 := by omega
      go_wp2
      go_ret
      exact ⟨ret_int (by rw [← HI.out, Gf.mul_zero, Nat.xor_zero]), rfl⟩
    · have hs := Gf.mul_step q r hq hr
      have HS := Lib.hid hs
      clear hs
      have hr0 : (0 : Int) < (r : Int) := by omega
      have hrI : (r : Int) < 256 := by omega
      have hqI : (q : Int) < 256 := by omega
      have hpI : (p : Int) < 256 := by omega
      have hd := Gf.dbl_lt q hq
      have HDL := Lib.hid hd
      clear hd
      have hx := i64_xor p q (by omega) (by omega)
      have hpq := Gf.xor_lt p q hp hq
      have HPQ := Lib.hid hpq
      clear hpq
      have HX := Lib.hid hx
      clear hx
      by_cases hodd : r % 2 = 1
      · have ho : ((r : Int) % 2 == 1) = true := beq_iff_eq.2 (by omega)
        have HO := Lib.hid hodd
        clear hodd
        by_cases hlow : q < 128
        · skip
          have hlI : (q : Int) < 128 := by omega
          have hlt : ¬ (255 : Int) < (q : Int) * 2 := by omega
          have hdl := dbl_low q hlow
          have HD := Lib.hid hdl
          clear hdl
          go_wp2
          go_round
          case rel => exact ⟨(p ^^^ q), Gf.dbl q, r / 2, HPQ.out, HDL.out, by omega, congrArg (Value.int IntKind.i64) HX.out, congrArg (Value.int IntKind.i64) (by rw [HD.out]; omega), by go_num, by rw [← HI.out, HS.out, if_pos HO.out, Nat.xor_assoc]⟩
          case measure => simp [intOf]; omega
        · skip
          have hlI : (128 : Int) ≤ (q : Int) := by omega
          have hlt : (255 : Int) < (q : Int) * 2 := by omega
          have hdl := dbl_high q hq (by omega)
          have hy := i64_xor (q * 2) 283 (by omega) (by omega)
          have HY := Lib.hid hy
          clear hy
          have HD := Lib.hid hdl
          clear hdl
          go_wp2
          go_round
          case rel => exact ⟨(p ^^^ q), Gf.dbl q, r / 2, HPQ.out, HDL.out, by omega, congrArg (Value.int IntKind.i64) HX.out, congrArg (Value.int IntKind.i64) (by rw [← HD.out, ← HY.out]; congr 1), by go_num, by rw [← HI.out, HS.out, if_pos HO.out, Nat.xor_assoc]⟩
          case measure => simp [intOf]; omega
      · have ho : ((r : Int) % 2 == 1) = false := beq_eq_false_iff_ne.2 (by omega)
        have HO := Lib.hid hodd
        clear hodd
        by_cases hlow : q < 128
        · skip
          have hlI : (q : Int) < 128 := by omega
          have hlt : ¬ (255 : Int) < (q : Int) * 2 := by omega
          have hdl := dbl_low q hlow
          have HD := Lib.hid hdl
          clear hdl
          go_wp2
          go_round
          case rel => exact ⟨p, Gf.dbl q, r / 2, hp, HDL.out, by omega, rfl, congrArg (Value.int IntKind.i64) (by rw [HD.out]; omega), by go_num, by rw [← HI.out, HS.out, if_neg HO.out, Nat.zero_xor]⟩
          case measure => simp [intOf]; omega
        · skip
          have hlI : (128 : Int) ≤ (q : Int) := by omega
          have hlt : (255 : Int) < (q : Int) * 2 := by omega
          have hdl := dbl_high q hq (by omega)
          have hy := i64_xor (q * 2) 283 (by omega) (by omega)
          have HY := Lib.hid hy
          clear hy
          have HD := Lib.hid hdl
          clear hdl
          go_wp2
          go_round
          case rel => exact ⟨p, Gf.dbl q, r / 2, hp, HDL.out, by omega, rfl, congrArg (Value.int IntKind.i64) (by rw [← HD.out, ← HY.out]; congr 1), by go_num, by rw [← HI.out, HS.out, if_neg HO.out, Nat.zero_xor]⟩
          case measure => simp [intOf]; omega

theorem ref_mul_is (a b v : Nat) (ha : a < 256) (hb : b < 256) (h : Gf.mul a b = v) (w : World) :
    Calls Try.prog 20 #[.int .u8 (a : Int), .int .u8 (b : Int)] w fun e w' => e = .returned (.int .u8 (v : Int)) ∧ w = w' := h ▸ ref_mul a b ha hb w

end Go.Proofs.Ytlncelfacfflhaa
