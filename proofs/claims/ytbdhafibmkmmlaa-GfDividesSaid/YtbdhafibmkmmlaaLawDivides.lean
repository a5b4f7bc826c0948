/-
  The walk of the statement GfDivides: what is divided, and multiplied again, is what it was, for any two bytes. Conditions: none.
-/
import Derived.Test.YtbdhafibmkmmlaaNat
namespace Go.Proofs.Ytbdhafibmkmmlaa
open Go.RowKit

set_option maxHeartbeats 1000000 in
set_option maxRecDepth 100000 in
theorem divides_zero (a : Nat) (w : World) : Calls Try.prog 5 #[.int .u8 (a : Int), .int .u8 0] w (Holds w) := by
  go_enter Try.func5, Try.ntmps5
  go_wp2_with fail
  refine (awake_any _).mono ?_
  rintro e w1 ⟨rfl, hx1⟩
  have HB := Lib.hid hx1
  clear hx1
  go_wp2_with fail
  refine (new_any _).mono ?_
  rintro e w2 ⟨f, rfl, hf, _, hx2⟩
  have HF := Lib.hid hf
  have HC := Lib.hid hx2
  clear hx2 hf
  go_wp2_with fail
  refine (div_zero f (a : Int) _).mono ?_
  rintro e w3 ⟨rfl, n1, rfl⟩
  go_wp2_with fail
  refine (inv_zero f _).mono ?_
  rintro e w3 ⟨rfl, n2, rfl⟩
  go_wp2_with fail
  go_ret
  exact ⟨rfl, (HB.out.trans HC.out).drewN _⟩

set_option maxHeartbeats 1000000 in
set_option maxRecDepth 100000 in
theorem divides_of_zero (b : Nat) (hb : b < 256) (b0 : b ≠ 0) (w : World) : Calls Try.prog 5 #[.int .u8 0, .int .u8 (b : Int)] w (Holds w) := by
  have hz : ((b : Int) == 0) = false := by simpa using b0
  go_enter Try.func5, Try.ntmps5
  go_wp2_with fail
  refine (awake_any _).mono ?_
  rintro e w1 ⟨rfl, hx1⟩
  have HB := Lib.hid hx1
  clear hx1
  go_wp2_with fail
  refine (new_any _).mono ?_
  rintro e w2 ⟨f, rfl, hf, _, hx2⟩
  have HF := Lib.hid hf
  have HC := Lib.hid hx2
  clear hx2 hf
  go_wp2_with fail
  refine (div_is f 0 b 0 _ HF.out (by first | assumption | exact Gf.mul_lt _ _ | exact Gf.quo_lt _ _ | exact Gf.pow_lt _ _ | exact Gf.xor_lt _ _ (by assumption) (by assumption) | omega) (by first | assumption | exact Gf.mul_lt _ _ | exact Gf.quo_lt _ _ | exact Gf.pow_lt _ _ | exact Gf.xor_lt _ _ (by assumption) (by assumption) | omega) (by first | assumption | exact Gf.quo_ne _ _ (by omega) | omega) rfl).mono ?_
  rintro e w3 ⟨rfl, n1, rfl⟩
  go_wp2_with fail
  refine (inv_is f b (Gf.quo 1 b) _ (HF.out.drewN _) (by first | assumption | exact Gf.mul_lt _ _ | exact Gf.quo_lt _ _ | exact Gf.pow_lt _ _ | exact Gf.xor_lt _ _ (by assumption) (by assumption) | omega) (by first | assumption | exact Gf.quo_ne _ _ (by omega) | omega) rfl).mono ?_
  rintro e w3 ⟨rfl, n2, rfl⟩
  go_wp2_with fail
  refine (inv_is f (Gf.quo 1 b) b _ (HF.out.drewN _) (by first | assumption | exact Gf.mul_lt _ _ | exact Gf.quo_lt _ _ | exact Gf.pow_lt _ _ | exact Gf.xor_lt _ _ (by assumption) (by assumption) | omega) (by first | assumption | exact Gf.quo_ne _ _ (by omega) | omega) (Gf.inv_inv b hb b0)).mono ?_
  rintro e w3 ⟨rfl, n3, rfl⟩
  go_wp2_with fail
  refine (mul_is f 0 b 0 _ (HF.out.drewN _) (by first | assumption | exact Gf.mul_lt _ _ | exact Gf.quo_lt _ _ | exact Gf.pow_lt _ _ | exact Gf.xor_lt _ _ (by assumption) (by assumption) | omega) (by first | assumption | exact Gf.mul_lt _ _ | exact Gf.quo_lt _ _ | exact Gf.pow_lt _ _ | exact Gf.xor_lt _ _ (by assumption) (by assumption) | omega) (Gf.zero_mul b)).mono ?_
  rintro e w3 ⟨rfl, n4, rfl⟩
  go_wp2_with fail
  refine (div_is f 0 b 0 _ (HF.out.drewN _) (by first | assumption | exact Gf.mul_lt _ _ | exact Gf.quo_lt _ _ | exact Gf.pow_lt _ _ | exact Gf.xor_lt _ _ (by assumption) (by assumption) | omega) (by first | assumption | exact Gf.mul_lt _ _ | exact Gf.quo_lt _ _ | exact Gf.pow_lt _ _ | exact Gf.xor_lt _ _ (by assumption) (by assumption) | omega) (by first | assumption | exact Gf.quo_ne _ _ (by omega) | omega) rfl).mono ?_
  rintro e w3 ⟨rfl, n5, rfl⟩
  go_wp2_with fail
  refine (mul_is f 0 b 0 _ (HF.out.drewN _) (by first | assumption | exact Gf.mul_lt _ _ | exact Gf.quo_lt _ _ | exact Gf.pow_lt _ _ | exact Gf.xor_lt _ _ (by assumption) (by assumption) | omega) (by first | assumption | exact Gf.mul_lt _ _ | exact Gf.quo_lt _ _ | exact Gf.pow_lt _ _ | exact Gf.xor_lt _ _ (by assumption) (by assumption) | omega) (Gf.zero_mul b)).mono ?_
  rintro e w3 ⟨rfl, n6, rfl⟩
  go_wp2_with fail
  refine (mul_is f 0 (Gf.quo 1 b) 0 _ (HF.out.drewN _) (by first | assumption | exact Gf.mul_lt _ _ | exact Gf.quo_lt _ _ | exact Gf.pow_lt _ _ | exact Gf.xor_lt _ _ (by assumption) (by assumption) | omega) (by first | assumption | exact Gf.mul_lt _ _ | exact Gf.quo_lt _ _ | exact Gf.pow_lt _ _ | exact Gf.xor_lt _ _ (by assumption) (by assumption) | omega) (Gf.zero_mul _)).mono ?_
  rintro e w3 ⟨rfl, n7, rfl⟩
  go_wp2_with fail
  refine (mul_is f 0 b 0 _ (HF.out.drewN _) (by first | assumption | exact Gf.mul_lt _ _ | exact Gf.quo_lt _ _ | exact Gf.pow_lt _ _ | exact Gf.xor_lt _ _ (by assumption) (by assumption) | omega) (by first | assumption | exact Gf.mul_lt _ _ | exact Gf.quo_lt _ _ | exact Gf.pow_lt _ _ | exact Gf.xor_lt _ _ (by assumption) (by assumption) | omega) (Gf.zero_mul b)).mono ?_
  rintro e w3 ⟨rfl, n8, rfl⟩
  go_wp2_with fail
  refine (mul_is f b (Gf.quo 1 b) 1 _ (HF.out.drewN _) (by first | assumption | exact Gf.mul_lt _ _ | exact Gf.quo_lt _ _ | exact Gf.pow_lt _ _ | exact Gf.xor_lt _ _ (by assumption) (by assumption) | omega) (by first | assumption | exact Gf.mul_lt _ _ | exact Gf.quo_lt _ _ | exact Gf.pow_lt _ _ | exact Gf.xor_lt _ _ (by assumption) (by assumption) | omega) ((Gf.mul_comm _ _).trans (Gf.quo_mul 1 b (by omega) hb b0))).mono ?_
  rintro e w3 ⟨rfl, n9, rfl⟩
  go_wp2_with fail
  go_ret
  exact ⟨rfl, (HB.out.trans HC.out).drewN _⟩

set_option maxHeartbeats 1000000 in
set_option maxRecDepth 100000 in
theorem divides_of (a b : Nat) (ha : a < 256) (hb : b < 256) (a0 : a ≠ 0) (b0 : b ≠ 0) (w : World) : Calls Try.prog 5 #[.int .u8 (a : Int), .int .u8 (b : Int)] w (Holds w) := by
  have hz : ((b : Int) == 0) = false := by simpa using b0
  have hy : ((a : Int) == 0) = false := by simpa using a0
  have hm := Gf.mul_ne a b a0 b0
  have hx : (((Gf.mul a b : Nat) : Int) == 0) = false := by simpa using hm
  go_enter Try.func5, Try.ntmps5
  go_wp2_with fail
  refine (awake_any _).mono ?_
  rintro e w1 ⟨rfl, hx1⟩
  have HB := Lib.hid hx1
  clear hx1
  go_wp2_with fail
  refine (new_any _).mono ?_
  rintro e w2 ⟨f, rfl, hf, _, hx2⟩
  have HF := Lib.hid hf
  have HC := Lib.hid hx2
  clear hx2 hf
  go_wp2_with fail
  refine (div_is f a b (Gf.quo a b) _ HF.out (by first | assumption | exact Gf.mul_lt _ _ | exact Gf.quo_lt _ _ | exact Gf.pow_lt _ _ | exact Gf.xor_lt _ _ (by assumption) (by assumption) | omega) (by first | assumption | exact Gf.mul_lt _ _ | exact Gf.quo_lt _ _ | exact Gf.pow_lt _ _ | exact Gf.xor_lt _ _ (by assumption) (by assumption) | omega) (by first | assumption | exact Gf.quo_ne _ _ (by omega) | omega) rfl).mono ?_
  rintro e w3 ⟨rfl, n1, rfl⟩
  go_wp2_with fail
  refine (inv_is f b (Gf.quo 1 b) _ (HF.out.drewN _) (by first | assumption | exact Gf.mul_lt _ _ | exact Gf.quo_lt _ _ | exact Gf.pow_lt _ _ | exact Gf.xor_lt _ _ (by assumption) (by assumption) | omega) (by first | assumption | exact Gf.quo_ne _ _ (by omega) | omega) rfl).mono ?_
  rintro e w3 ⟨rfl, n2, rfl⟩
  go_wp2_with fail
  refine (inv_is f (Gf.quo 1 b) b _ (HF.out.drewN _) (by first | assumption | exact Gf.mul_lt _ _ | exact Gf.quo_lt _ _ | exact Gf.pow_lt _ _ | exact Gf.xor_lt _ _ (by assumption) (by assumption) | omega) (by first | assumption | exact Gf.quo_ne _ _ (by omega) | omega) (Gf.inv_inv b hb b0)).mono ?_
  rintro e w3 ⟨rfl, n3, rfl⟩
  go_wp2_with fail
  refine (mul_is f a b (Gf.mul a b) _ (HF.out.drewN _) (by first | assumption | exact Gf.mul_lt _ _ | exact Gf.quo_lt _ _ | exact Gf.pow_lt _ _ | exact Gf.xor_lt _ _ (by assumption) (by assumption) | omega) (by first | assumption | exact Gf.mul_lt _ _ | exact Gf.quo_lt _ _ | exact Gf.pow_lt _ _ | exact Gf.xor_lt _ _ (by assumption) (by assumption) | omega) rfl).mono ?_
  rintro e w3 ⟨rfl, n4, rfl⟩
  go_wp2_with fail
  refine (div_is f (Gf.mul a b) b a _ (HF.out.drewN _) (by first | assumption | exact Gf.mul_lt _ _ | exact Gf.quo_lt _ _ | exact Gf.pow_lt _ _ | exact Gf.xor_lt _ _ (by assumption) (by assumption) | omega) (by first | assumption | exact Gf.mul_lt _ _ | exact Gf.quo_lt _ _ | exact Gf.pow_lt _ _ | exact Gf.xor_lt _ _ (by assumption) (by assumption) | omega) (by first | assumption | exact Gf.quo_ne _ _ (by omega) | omega) (Gf.mul_quo a b ha hb b0)).mono ?_
  rintro e w3 ⟨rfl, n5, rfl⟩
  go_wp2_with fail
  refine (mul_is f (Gf.quo a b) b a _ (HF.out.drewN _) (by first | assumption | exact Gf.mul_lt _ _ | exact Gf.quo_lt _ _ | exact Gf.pow_lt _ _ | exact Gf.xor_lt _ _ (by assumption) (by assumption) | omega) (by first | assumption | exact Gf.mul_lt _ _ | exact Gf.quo_lt _ _ | exact Gf.pow_lt _ _ | exact Gf.xor_lt _ _ (by assumption) (by assumption) | omega) (Gf.quo_mul a b ha hb b0)).mono ?_
  rintro e w3 ⟨rfl, n6, rfl⟩
  go_wp2_with fail
  refine (mul_is f a (Gf.quo 1 b) (Gf.quo a b) _ (HF.out.drewN _) (by first | assumption | exact Gf.mul_lt _ _ | exact Gf.quo_lt _ _ | exact Gf.pow_lt _ _ | exact Gf.xor_lt _ _ (by assumption) (by assumption) | omega) (by first | assumption | exact Gf.mul_lt _ _ | exact Gf.quo_lt _ _ | exact Gf.pow_lt _ _ | exact Gf.xor_lt _ _ (by assumption) (by assumption) | omega) (Gf.quo_inv a b ha hb b0).symm).mono ?_
  rintro e w3 ⟨rfl, n7, rfl⟩
  go_wp2_with fail
  refine (mul_is f a b (Gf.mul a b) _ (HF.out.drewN _) (by first | assumption | exact Gf.mul_lt _ _ | exact Gf.quo_lt _ _ | exact Gf.pow_lt _ _ | exact Gf.xor_lt _ _ (by assumption) (by assumption) | omega) (by first | assumption | exact Gf.mul_lt _ _ | exact Gf.quo_lt _ _ | exact Gf.pow_lt _ _ | exact Gf.xor_lt _ _ (by assumption) (by assumption) | omega) rfl).mono ?_
  rintro e w3 ⟨rfl, n8, rfl⟩
  go_wp2_with fail
  refine (mul_is f b (Gf.quo 1 b) 1 _ (HF.out.drewN _) (by first | assumption | exact Gf.mul_lt _ _ | exact Gf.quo_lt _ _ | exact Gf.pow_lt _ _ | exact Gf.xor_lt _ _ (by assumption) (by assumption) | omega) (by first | assumption | exact Gf.mul_lt _ _ | exact Gf.quo_lt _ _ | exact Gf.pow_lt _ _ | exact Gf.xor_lt _ _ (by assumption) (by assumption) | omega) ((Gf.mul_comm _ _).trans (Gf.quo_mul 1 b (by omega) hb b0))).mono ?_
  rintro e w3 ⟨rfl, n9, rfl⟩
  go_wp2_with fail
  go_ret
  exact ⟨rfl, (HB.out.trans HC.out).drewN _⟩

theorem divides_walk (a b : Nat) (ha : a < 256) (hb : b < 256) (w : World) : Calls Try.prog 5 #[.int .u8 (a : Int), .int .u8 (b : Int)] w (Holds w) := by
  by_cases b0 : b = 0
  · subst b0; exact divides_zero a w
  · by_cases a0 : a = 0
    · subst a0; exact divides_of_zero b hb b0 w
    · exact divides_of a b ha hb a0 b0 w
end Go.Proofs.Ytbdhafibmkmmlaa
