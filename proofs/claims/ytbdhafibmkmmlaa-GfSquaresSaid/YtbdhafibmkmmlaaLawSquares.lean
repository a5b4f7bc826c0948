/-
  The walk of the statement GfSquares: the square of a sum is the sum of the squares, and no two bytes have one square, nor one inverse. Conditions: none.
-/
import Derived.Test.YtbdhafibmkmmlaaNat
namespace Go.Proofs.Ytbdhafibmkmmlaa
open Go.RowKit

set_option maxHeartbeats 1000000 in
set_option maxRecDepth 100000 in
theorem squares_same (a : Nat) (ha : a < 256) (a0 : a ≠ 0) (w : World) : Calls Try.prog 7 #[.int .u8 (a : Int), .int .u8 (a : Int)] w (Holds w) := by
  go_enter Try.func7, Try.ntmps7
  go_wp2_with fail
  refine (awake_any _).mono ?_
  rintro e w1 ⟨rfl, hx1⟩
  have HB := Lib.hid hx1
  clear hx1
  go_wp2_with fail
  refine (new_any _).mono ?_
  rintro e w2 ⟨f, rfl, hf, _, hx2⟩
  have HF := Lib.hid hf
  have HC := Lib.hid hx2
  clear hx2 hf
  go_wp2_with fail
  refine (inv_is f a (Gf.quo 1 a) _ HF.out (by first | assumption | exact Gf.mul_lt _ _ | exact Gf.quo_lt _ _ | exact Gf.pow_lt _ _ | exact Gf.xor_lt _ _ (by assumption) (by assumption) | omega) (by first | assumption | exact Gf.quo_ne _ _ (by omega) | omega) rfl).mono ?_
  rintro e w3 ⟨rfl, n1, rfl⟩
  go_wp2_with fail
  refine (inv_is f a (Gf.quo 1 a) _ (HF.out.drewN _) (by first | assumption | exact Gf.mul_lt _ _ | exact Gf.quo_lt _ _ | exact Gf.pow_lt _ _ | exact Gf.xor_lt _ _ (by assumption) (by assumption) | omega) (by first | assumption | exact Gf.quo_ne _ _ (by omega) | omega) rfl).mono ?_
  rintro e w3 ⟨rfl, n2, rfl⟩
  go_wp2_with fail
  refine (add_is a a 0 (by first | assumption | exact Gf.mul_lt _ _ | exact Gf.quo_lt _ _ | exact Gf.pow_lt _ _ | exact Gf.xor_lt _ _ (by assumption) (by assumption) | omega) (by first | assumption | exact Gf.mul_lt _ _ | exact Gf.quo_lt _ _ | exact Gf.pow_lt _ _ | exact Gf.xor_lt _ _ (by assumption) (by assumption) | omega) (Nat.xor_self a) _).mono ?_
  rintro e w3 ⟨rfl, rfl⟩
  go_wp2_with fail
  refine (pow_is f 0 2 0 _ (HF.out.drewN _) (by first | assumption | exact Gf.mul_lt _ _ | exact Gf.quo_lt _ _ | exact Gf.pow_lt _ _ | exact Gf.xor_lt _ _ (by assumption) (by assumption) | omega) rfl).mono ?_
  rintro e w3 ⟨rfl, n3, rfl⟩
  go_wp2_with fail
  refine (pow_is f a 2 (Gf.pow a 2) _ (HF.out.drewN _) (by first | assumption | exact Gf.mul_lt _ _ | exact Gf.quo_lt _ _ | exact Gf.pow_lt _ _ | exact Gf.xor_lt _ _ (by assumption) (by assumption) | omega) rfl).mono ?_
  rintro e w3 ⟨rfl, n4, rfl⟩
  go_wp2_with fail
  refine (pow_is f a 2 (Gf.pow a 2) _ (HF.out.drewN _) (by first | assumption | exact Gf.mul_lt _ _ | exact Gf.quo_lt _ _ | exact Gf.pow_lt _ _ | exact Gf.xor_lt _ _ (by assumption) (by assumption) | omega) rfl).mono ?_
  rintro e w3 ⟨rfl, n5, rfl⟩
  go_wp2_with fail
  refine (add_is (Gf.pow a 2) (Gf.pow a 2) 0 (by first | assumption | exact Gf.mul_lt _ _ | exact Gf.quo_lt _ _ | exact Gf.pow_lt _ _ | exact Gf.xor_lt _ _ (by assumption) (by assumption) | omega) (by first | assumption | exact Gf.mul_lt _ _ | exact Gf.quo_lt _ _ | exact Gf.pow_lt _ _ | exact Gf.xor_lt _ _ (by assumption) (by assumption) | omega) (Nat.xor_self _) _).mono ?_
  rintro e w3 ⟨rfl, rfl⟩
  go_wp2_with fail
  refine (pow_is f a 2 (Gf.pow a 2) _ (HF.out.drewN _) (by first | assumption | exact Gf.mul_lt _ _ | exact Gf.quo_lt _ _ | exact Gf.pow_lt _ _ | exact Gf.xor_lt _ _ (by assumption) (by assumption) | omega) rfl).mono ?_
  rintro e w3 ⟨rfl, n6, rfl⟩
  go_wp2_with fail
  refine (pow_is f a 2 (Gf.pow a 2) _ (HF.out.drewN _) (by first | assumption | exact Gf.mul_lt _ _ | exact Gf.quo_lt _ _ | exact Gf.pow_lt _ _ | exact Gf.xor_lt _ _ (by assumption) (by assumption) | omega) rfl).mono ?_
  rintro e w3 ⟨rfl, n7, rfl⟩
  go_wp2_with fail
  go_ret
  exact ⟨rfl, (HB.out.trans HC.out).drewN _⟩

set_option maxHeartbeats 1000000 in
set_option maxRecDepth 100000 in
theorem squares_zeros  (w : World) : Calls Try.prog 7 #[.int .u8 0, .int .u8 0] w (Holds w) := by
  go_enter Try.func7, Try.ntmps7
  go_wp2_with fail
  refine (awake_any _).mono ?_
  rintro e w1 ⟨rfl, hx1⟩
  have HB := Lib.hid hx1
  clear hx1
  go_wp2_with fail
  refine (new_any _).mono ?_
  rintro e w2 ⟨f, rfl, hf, _, hx2⟩
  have HF := Lib.hid hf
  have HC := Lib.hid hx2
  clear hx2 hf
  go_wp2_with fail
  refine (inv_zero f _).mono ?_
  rintro e w3 ⟨rfl, n1, rfl⟩
  go_wp2_with fail
  refine (inv_zero f _).mono ?_
  rintro e w3 ⟨rfl, n2, rfl⟩
  go_wp2_with fail
  refine (add_is 0 0 0 (by first | assumption | exact Gf.mul_lt _ _ | exact Gf.quo_lt _ _ | exact Gf.pow_lt _ _ | exact Gf.xor_lt _ _ (by assumption) (by assumption) | omega) (by first | assumption | exact Gf.mul_lt _ _ | exact Gf.quo_lt _ _ | exact Gf.pow_lt _ _ | exact Gf.xor_lt _ _ (by assumption) (by assumption) | omega) rfl _).mono ?_
  rintro e w3 ⟨rfl, rfl⟩
  go_wp2_with fail
  refine (pow_is f 0 2 0 _ (HF.out.drewN _) (by first | assumption | exact Gf.mul_lt _ _ | exact Gf.quo_lt _ _ | exact Gf.pow_lt _ _ | exact Gf.xor_lt _ _ (by assumption) (by assumption) | omega) rfl).mono ?_
  rintro e w3 ⟨rfl, n3, rfl⟩
  go_wp2_with fail
  refine (pow_is f 0 2 0 _ (HF.out.drewN _) (by first | assumption | exact Gf.mul_lt _ _ | exact Gf.quo_lt _ _ | exact Gf.pow_lt _ _ | exact Gf.xor_lt _ _ (by assumption) (by assumption) | omega) rfl).mono ?_
  rintro e w3 ⟨rfl, n4, rfl⟩
  go_wp2_with fail
  refine (pow_is f 0 2 0 _ (HF.out.drewN _) (by first | assumption | exact Gf.mul_lt _ _ | exact Gf.quo_lt _ _ | exact Gf.pow_lt _ _ | exact Gf.xor_lt _ _ (by assumption) (by assumption) | omega) rfl).mono ?_
  rintro e w3 ⟨rfl, n5, rfl⟩
  go_wp2_with fail
  refine (add_is 0 0 0 (by first | assumption | exact Gf.mul_lt _ _ | exact Gf.quo_lt _ _ | exact Gf.pow_lt _ _ | exact Gf.xor_lt _ _ (by assumption) (by assumption) | omega) (by first | assumption | exact Gf.mul_lt _ _ | exact Gf.quo_lt _ _ | exact Gf.pow_lt _ _ | exact Gf.xor_lt _ _ (by assumption) (by assumption) | omega) rfl _).mono ?_
  rintro e w3 ⟨rfl, rfl⟩
  go_wp2_with fail
  refine (pow_is f 0 2 0 _ (HF.out.drewN _) (by first | assumption | exact Gf.mul_lt _ _ | exact Gf.quo_lt _ _ | exact Gf.pow_lt _ _ | exact Gf.xor_lt _ _ (by assumption) (by assumption) | omega) rfl).mono ?_
  rintro e w3 ⟨rfl, n6, rfl⟩
  go_wp2_with fail
  refine (pow_is f 0 2 0 _ (HF.out.drewN _) (by first | assumption | exact Gf.mul_lt _ _ | exact Gf.quo_lt _ _ | exact Gf.pow_lt _ _ | exact Gf.xor_lt _ _ (by assumption) (by assumption) | omega) rfl).mono ?_
  rintro e w3 ⟨rfl, n7, rfl⟩
  go_wp2_with fail
  go_ret
  exact ⟨rfl, (HB.out.trans HC.out).drewN _⟩

set_option maxHeartbeats 1000000 in
set_option maxRecDepth 100000 in
theorem squares_zero_left (b : Nat) (hb : b < 256) (b0 : b ≠ 0) (w : World) : Calls Try.prog 7 #[.int .u8 0, .int .u8 (b : Int)] w (Holds w) := by
  have hz : ((0 : Int) == (b : Int)) = false := beq_eq_false_iff_ne.2 (by omega)
  have hn : Gf.pow b 2 ≠ 0 := by rw [Gf.pow_two b hb]; exact Gf.mul_ne b b b0 b0
  have hp : ((0 : Int) == ((Gf.pow b 2 : Nat) : Int)) = false := beq_eq_false_iff_ne.2 (by omega)
  go_enter Try.func7, Try.ntmps7
  go_wp2_with fail
  refine (awake_any _).mono ?_
  rintro e w1 ⟨rfl, hx1⟩
  have HB := Lib.hid hx1
  clear hx1
  go_wp2_with fail
  refine (new_any _).mono ?_
  rintro e w2 ⟨f, rfl, hf, _, hx2⟩
  have HF := Lib.hid hf
  have HC := Lib.hid hx2
  clear hx2 hf
  go_wp2_with fail
  refine (inv_zero f _).mono ?_
  rintro e w3 ⟨rfl, n1, rfl⟩
  go_wp2_with fail
  refine (inv_is f b (Gf.quo 1 b) _ (HF.out.drewN _) (by first | assumption | exact Gf.mul_lt _ _ | exact Gf.quo_lt _ _ | exact Gf.pow_lt _ _ | exact Gf.xor_lt _ _ (by assumption) (by assumption) | omega) (by first | assumption | exact Gf.quo_ne _ _ (by omega) | omega) rfl).mono ?_
  rintro e w3 ⟨rfl, n2, rfl⟩
  go_wp2_with fail
  refine (add_is 0 b b (by first | assumption | exact Gf.mul_lt _ _ | exact Gf.quo_lt _ _ | exact Gf.pow_lt _ _ | exact Gf.xor_lt _ _ (by assumption) (by assumption) | omega) (by first | assumption | exact Gf.mul_lt _ _ | exact Gf.quo_lt _ _ | exact Gf.pow_lt _ _ | exact Gf.xor_lt _ _ (by assumption) (by assumption) | omega) (Nat.zero_xor b) _).mono ?_
  rintro e w3 ⟨rfl, rfl⟩
  go_wp2_with fail
  refine (pow_is f b 2 (Gf.pow b 2) _ (HF.out.drewN _) (by first | assumption | exact Gf.mul_lt _ _ | exact Gf.quo_lt _ _ | exact Gf.pow_lt _ _ | exact Gf.xor_lt _ _ (by assumption) (by assumption) | omega) rfl).mono ?_
  rintro e w3 ⟨rfl, n3, rfl⟩
  go_wp2_with fail
  refine (pow_is f 0 2 0 _ (HF.out.drewN _) (by first | assumption | exact Gf.mul_lt _ _ | exact Gf.quo_lt _ _ | exact Gf.pow_lt _ _ | exact Gf.xor_lt _ _ (by assumption) (by assumption) | omega) rfl).mono ?_
  rintro e w3 ⟨rfl, n4, rfl⟩
  go_wp2_with fail
  refine (pow_is f b 2 (Gf.pow b 2) _ (HF.out.drewN _) (by first | assumption | exact Gf.mul_lt _ _ | exact Gf.quo_lt _ _ | exact Gf.pow_lt _ _ | exact Gf.xor_lt _ _ (by assumption) (by assumption) | omega) rfl).mono ?_
  rintro e w3 ⟨rfl, n5, rfl⟩
  go_wp2_with fail
  refine (add_is 0 (Gf.pow b 2) (Gf.pow b 2) (by first | assumption | exact Gf.mul_lt _ _ | exact Gf.quo_lt _ _ | exact Gf.pow_lt _ _ | exact Gf.xor_lt _ _ (by assumption) (by assumption) | omega) (by first | assumption | exact Gf.mul_lt _ _ | exact Gf.quo_lt _ _ | exact Gf.pow_lt _ _ | exact Gf.xor_lt _ _ (by assumption) (by assumption) | omega) (Nat.zero_xor _) _).mono ?_
  rintro e w3 ⟨rfl, rfl⟩
  go_wp2_with fail
  refine (pow_is f 0 2 0 _ (HF.out.drewN _) (by first | assumption | exact Gf.mul_lt _ _ | exact Gf.quo_lt _ _ | exact Gf.pow_lt _ _ | exact Gf.xor_lt _ _ (by assumption) (by assumption) | omega) rfl).mono ?_
  rintro e w3 ⟨rfl, n6, rfl⟩
  go_wp2_with fail
  refine (pow_is f b 2 (Gf.pow b 2) _ (HF.out.drewN _) (by first | assumption | exact Gf.mul_lt _ _ | exact Gf.quo_lt _ _ | exact Gf.pow_lt _ _ | exact Gf.xor_lt _ _ (by assumption) (by assumption) | omega) rfl).mono ?_
  rintro e w3 ⟨rfl, n7, rfl⟩
  go_wp2_with fail
  go_ret
  exact ⟨rfl, (HB.out.trans HC.out).drewN _⟩

set_option maxHeartbeats 1000000 in
set_option maxRecDepth 100000 in
theorem squares_zero_right (a : Nat) (ha : a < 256) (a0 : a ≠ 0) (w : World) : Calls Try.prog 7 #[.int .u8 (a : Int), .int .u8 0] w (Holds w) := by
  have hz : ((a : Int) == 0) = false := by simpa using a0
  have hn : Gf.pow a 2 ≠ 0 := by rw [Gf.pow_two a ha]; exact Gf.mul_ne a a a0 a0
  have hp : (((Gf.pow a 2 : Nat) : Int) == 0) = false := by simpa using hn
  go_enter Try.func7, Try.ntmps7
  go_wp2_with fail
  refine (awake_any _).mono ?_
  rintro e w1 ⟨rfl, hx1⟩
  have HB := Lib.hid hx1
  clear hx1
  go_wp2_with fail
  refine (new_any _).mono ?_
  rintro e w2 ⟨f, rfl, hf, _, hx2⟩
  have HF := Lib.hid hf
  have HC := Lib.hid hx2
  clear hx2 hf
  go_wp2_with fail
  refine (inv_is f a (Gf.quo 1 a) _ HF.out (by first | assumption | exact Gf.mul_lt _ _ | exact Gf.quo_lt _ _ | exact Gf.pow_lt _ _ | exact Gf.xor_lt _ _ (by assumption) (by assumption) | omega) (by first | assumption | exact Gf.quo_ne _ _ (by omega) | omega) rfl).mono ?_
  rintro e w3 ⟨rfl, n1, rfl⟩
  go_wp2_with fail
  refine (inv_zero f _).mono ?_
  rintro e w3 ⟨rfl, n2, rfl⟩
  go_wp2_with fail
  refine (add_is a 0 a (by first | assumption | exact Gf.mul_lt _ _ | exact Gf.quo_lt _ _ | exact Gf.pow_lt _ _ | exact Gf.xor_lt _ _ (by assumption) (by assumption) | omega) (by first | assumption | exact Gf.mul_lt _ _ | exact Gf.quo_lt _ _ | exact Gf.pow_lt _ _ | exact Gf.xor_lt _ _ (by assumption) (by assumption) | omega) (Nat.xor_zero a) _).mono ?_
  rintro e w3 ⟨rfl, rfl⟩
  go_wp2_with fail
  refine (pow_is f a 2 (Gf.pow a 2) _ (HF.out.drewN _) (by first | assumption | exact Gf.mul_lt _ _ | exact Gf.quo_lt _ _ | exact Gf.pow_lt _ _ | exact Gf.xor_lt _ _ (by assumption) (by assumption) | omega) rfl).mono ?_
  rintro e w3 ⟨rfl, n3, rfl⟩
  go_wp2_with fail
  refine (pow_is f a 2 (Gf.pow a 2) _ (HF.out.drewN _) (by first | assumption | exact Gf.mul_lt _ _ | exact Gf.quo_lt _ _ | exact Gf.pow_lt _ _ | exact Gf.xor_lt _ _ (by assumption) (by assumption) | omega) rfl).mono ?_
  rintro e w3 ⟨rfl, n4, rfl⟩
  go_wp2_with fail
  refine (pow_is f 0 2 0 _ (HF.out.drewN _) (by first | assumption | exact Gf.mul_lt _ _ | exact Gf.quo_lt _ _ | exact Gf.pow_lt _ _ | exact Gf.xor_lt _ _ (by assumption) (by assumption) | omega) rfl).mono ?_
  rintro e w3 ⟨rfl, n5, rfl⟩
  go_wp2_with fail
  refine (add_is (Gf.pow a 2) 0 (Gf.pow a 2) (by first | assumption | exact Gf.mul_lt _ _ | exact Gf.quo_lt _ _ | exact Gf.pow_lt _ _ | exact Gf.xor_lt _ _ (by assumption) (by assumption) | omega) (by first | assumption | exact Gf.mul_lt _ _ | exact Gf.quo_lt _ _ | exact Gf.pow_lt _ _ | exact Gf.xor_lt _ _ (by assumption) (by assumption) | omega) (Nat.xor_zero _) _).mono ?_
  rintro e w3 ⟨rfl, rfl⟩
  go_wp2_with fail
  refine (pow_is f a 2 (Gf.pow a 2) _ (HF.out.drewN _) (by first | assumption | exact Gf.mul_lt _ _ | exact Gf.quo_lt _ _ | exact Gf.pow_lt _ _ | exact Gf.xor_lt _ _ (by assumption) (by assumption) | omega) rfl).mono ?_
  rintro e w3 ⟨rfl, n6, rfl⟩
  go_wp2_with fail
  refine (pow_is f 0 2 0 _ (HF.out.drewN _) (by first | assumption | exact Gf.mul_lt _ _ | exact Gf.quo_lt _ _ | exact Gf.pow_lt _ _ | exact Gf.xor_lt _ _ (by assumption) (by assumption) | omega) rfl).mono ?_
  rintro e w3 ⟨rfl, n7, rfl⟩
  go_wp2_with fail
  go_ret
  exact ⟨rfl, (HB.out.trans HC.out).drewN _⟩

set_option maxHeartbeats 1000000 in
set_option maxRecDepth 100000 in
theorem squares_apart (a b : Nat) (ha : a < 256) (hb : b < 256) (a0 : a ≠ 0) (b0 : b ≠ 0) (hab : a ≠ b) (w : World) : Calls Try.prog 7 #[.int .u8 (a : Int), .int .u8 (b : Int)] w (Holds w) := by
  have hz : ((a : Int) == (b : Int)) = false := by simpa using (fun h : (a : Int) = (b : Int) => hab (by omega))
  have hn : Gf.pow a 2 ≠ Gf.pow b 2 := fun h => hab (Gf.sq_inj a b ha hb h)
  have hp : (((Gf.pow a 2 : Nat) : Int) == ((Gf.pow b 2 : Nat) : Int)) = false := by simpa using (fun h : ((Gf.pow a 2 : Nat) : Int) = ((Gf.pow b 2 : Nat) : Int) => hn (by omega))
  have hm : Gf.quo 1 a ≠ Gf.quo 1 b := fun h => hab (Gf.inv_inj a b ha hb a0 b0 h)
  have hi : (((Gf.quo 1 a : Nat) : Int) == ((Gf.quo 1 b : Nat) : Int)) = false := by simpa using (fun h : ((Gf.quo 1 a : Nat) : Int) = ((Gf.quo 1 b : Nat) : Int) => hm (by omega))
  go_enter Try.func7, Try.ntmps7
  go_wp2_with fail
  refine (awake_any _).mono ?_
  rintro e w1 ⟨rfl, hx1⟩
  have HB := Lib.hid hx1
  clear hx1
  go_wp2_with fail
  refine (new_any _).mono ?_
  rintro e w2 ⟨f, rfl, hf, _, hx2⟩
  have HF := Lib.hid hf
  have HC := Lib.hid hx2
  clear hx2 hf
  go_wp2_with fail
  refine (inv_is f a (Gf.quo 1 a) _ HF.out (by first | assumption | exact Gf.mul_lt _ _ | exact Gf.quo_lt _ _ | exact Gf.pow_lt _ _ | exact Gf.xor_lt _ _ (by assumption) (by assumption) | omega) (by first | assumption | exact Gf.quo_ne _ _ (by omega) | omega) rfl).mono ?_
  rintro e w3 ⟨rfl, n1, rfl⟩
  go_wp2_with fail
  refine (inv_is f b (Gf.quo 1 b) _ (HF.out.drewN _) (by first | assumption | exact Gf.mul_lt _ _ | exact Gf.quo_lt _ _ | exact Gf.pow_lt _ _ | exact Gf.xor_lt _ _ (by assumption) (by assumption) | omega) (by first | assumption | exact Gf.quo_ne _ _ (by omega) | omega) rfl).mono ?_
  rintro e w3 ⟨rfl, n2, rfl⟩
  go_wp2_with fail
  refine (add_is a b (a ^^^ b) (by first | assumption | exact Gf.mul_lt _ _ | exact Gf.quo_lt _ _ | exact Gf.pow_lt _ _ | exact Gf.xor_lt _ _ (by assumption) (by assumption) | omega) (by first | assumption | exact Gf.mul_lt _ _ | exact Gf.quo_lt _ _ | exact Gf.pow_lt _ _ | exact Gf.xor_lt _ _ (by assumption) (by assumption) | omega) rfl _).mono ?_
  rintro e w3 ⟨rfl, rfl⟩
  go_wp2_with fail
  refine (pow_is f (a ^^^ b) 2 (Gf.pow (a ^^^ b) 2) _ (HF.out.drewN _) (by first | assumption | exact Gf.mul_lt _ _ | exact Gf.quo_lt _ _ | exact Gf.pow_lt _ _ | exact Gf.xor_lt _ _ (by assumption) (by assumption) | omega) rfl).mono ?_
  rintro e w3 ⟨rfl, n3, rfl⟩
  go_wp2_with fail
  refine (pow_is f a 2 (Gf.pow a 2) _ (HF.out.drewN _) (by first | assumption | exact Gf.mul_lt _ _ | exact Gf.quo_lt _ _ | exact Gf.pow_lt _ _ | exact Gf.xor_lt _ _ (by assumption) (by assumption) | omega) rfl).mono ?_
  rintro e w3 ⟨rfl, n4, rfl⟩
  go_wp2_with fail
  refine (pow_is f b 2 (Gf.pow b 2) _ (HF.out.drewN _) (by first | assumption | exact Gf.mul_lt _ _ | exact Gf.quo_lt _ _ | exact Gf.pow_lt _ _ | exact Gf.xor_lt _ _ (by assumption) (by assumption) | omega) rfl).mono ?_
  rintro e w3 ⟨rfl, n5, rfl⟩
  go_wp2_with fail
  refine (add_is (Gf.pow a 2) (Gf.pow b 2) (Gf.pow (a ^^^ b) 2) (by first | assumption | exact Gf.mul_lt _ _ | exact Gf.quo_lt _ _ | exact Gf.pow_lt _ _ | exact Gf.xor_lt _ _ (by assumption) (by assumption) | omega) (by first | assumption | exact Gf.mul_lt _ _ | exact Gf.quo_lt _ _ | exact Gf.pow_lt _ _ | exact Gf.xor_lt _ _ (by assumption) (by assumption) | omega) (Gf.sq_add a b ha hb).symm _).mono ?_
  rintro e w3 ⟨rfl, rfl⟩
  go_wp2_with fail
  refine (pow_is f a 2 (Gf.pow a 2) _ (HF.out.drewN _) (by first | assumption | exact Gf.mul_lt _ _ | exact Gf.quo_lt _ _ | exact Gf.pow_lt _ _ | exact Gf.xor_lt _ _ (by assumption) (by assumption) | omega) rfl).mono ?_
  rintro e w3 ⟨rfl, n6, rfl⟩
  go_wp2_with fail
  refine (pow_is f b 2 (Gf.pow b 2) _ (HF.out.drewN _) (by first | assumption | exact Gf.mul_lt _ _ | exact Gf.quo_lt _ _ | exact Gf.pow_lt _ _ | exact Gf.xor_lt _ _ (by assumption) (by assumption) | omega) rfl).mono ?_
  rintro e w3 ⟨rfl, n7, rfl⟩
  go_wp2_with fail
  go_ret
  exact ⟨rfl, (HB.out.trans HC.out).drewN _⟩

theorem squares_walk (a b : Nat) (ha : a < 256) (hb : b < 256) (w : World) : Calls Try.prog 7 #[.int .u8 (a : Int), .int .u8 (b : Int)] w (Holds w) := by
  by_cases hab : a = b
  · subst hab
    by_cases a0 : a = 0
    · subst a0; exact squares_zeros w
    · exact squares_same a ha a0 w
  by_cases a0 : a = 0
  · subst a0; exact squares_zero_left b hb (fun h => hab h.symm) w
  by_cases b0 : b = 0
  · subst b0; exact squares_zero_right a ha a0 w
  exact squares_apart a b ha hb a0 b0 hab w
end Go.Proofs.Ytbdhafibmkmmlaa
