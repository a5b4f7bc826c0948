/-
  The walk of the statement GfLogs: the logarithm of a product is the sum of the logarithms modulo 255, and each number below 255 is one byte's. Conditions: none.
-/
import Derived.Test.YtbdhafibmkmmlaaNat
namespace Go.Proofs.Ytbdhafibmkmmlaa
open Go.RowKit

set_option maxHeartbeats 1000000 in
theorem logs_zero_left (b n : Int) (w : World) : Calls Try.prog 9 #[.int .u8 0, .int .u8 b, .int .u8 n] w (Holds w) := by
  go_enter Try.func9, Try.ntmps9
  go_wp2_with fail
  refine (awake_any _).mono ?_
  rintro e w1 ⟨rfl, hx1⟩
  have HB := Lib.hid hx1
  clear hx1
  go_wp2_with fail
  refine (awake_any _).mono ?_
  rintro e w1 ⟨rfl, hx1⟩
  have HC := Lib.hid hx1
  clear hx1
  go_wp2_with fail
  go_ret
  exact ⟨rfl, HB.out.trans HC.out⟩

set_option maxHeartbeats 1000000 in
theorem logs_zero_right (a : Nat) (a0 : a ≠ 0) (n : Int) (w : World) : Calls Try.prog 9 #[.int .u8 (a : Int), .int .u8 0, .int .u8 n] w (Holds w) := by
  have hz : ((a : Int) == 0) = false := by simpa using a0
  go_enter Try.func9, Try.ntmps9
  go_wp2_with fail
  refine (awake_any _).mono ?_
  rintro e w1 ⟨rfl, hx1⟩
  have HB := Lib.hid hx1
  clear hx1
  go_wp2_with fail
  refine (awake_any _).mono ?_
  rintro e w1 ⟨rfl, hx1⟩
  have HC := Lib.hid hx1
  clear hx1
  go_wp2_with fail
  go_ret
  exact ⟨rfl, HB.out.trans HC.out⟩

set_option maxHeartbeats 1000000 in
set_option maxRecDepth 100000 in
theorem logs_same (a n : Nat) (ha : a < 256) (a0 : a ≠ 0) (hn : n < 256) (w : World) :
    Calls Try.prog 9 #[.int .u8 (a : Int), .int .u8 (a : Int), .int .u8 (n : Int)] w (Holds w) := by
  have hz : ((a : Int) == 0) = false := by simpa using a0
  have hl := Gf.lg_lt a
  have hm := Gf.mul_ne a a a0 a0
  have hp : Gf.pow 3 n ≠ 0 := by rw [Gf.pow_three]; exact (Gf.pw_bd n).1
  go_enter Try.func9, Try.ntmps9
  go_wp2_with fail
  refine (awake_any _).mono ?_
  rintro e w1 ⟨rfl, hx1⟩
  have HB := Lib.hid hx1
  clear hx1
  go_wp2_with fail
  refine (new_any _).mono ?_
  rintro e w2 ⟨f, rfl, hf, _, hx2⟩
  have HF := Lib.hid hf
  have HC := Lib.hid hx2
  clear hx2 hf
  go_wp2_with fail
  refine (log_is f a (Gf.lg a) _ HF.out (by first | assumption | exact Gf.mul_lt _ _ | exact Gf.quo_lt _ _ | exact Gf.pow_lt _ _ | exact Gf.xor_lt _ _ (by assumption) (by assumption) | omega) (by first | assumption | exact Gf.quo_ne _ _ (by omega) | omega) rfl).mono ?_
  rintro e w3 ⟨rfl, n1, rfl⟩
  go_wp2_with fail
  refine (log_is f a (Gf.lg a) _ (HF.out.drewN _) (by first | assumption | exact Gf.mul_lt _ _ | exact Gf.quo_lt _ _ | exact Gf.pow_lt _ _ | exact Gf.xor_lt _ _ (by assumption) (by assumption) | omega) (by first | assumption | exact Gf.quo_ne _ _ (by omega) | omega) rfl).mono ?_
  rintro e w3 ⟨rfl, n2, rfl⟩
  go_wp2_with fail
  refine (mul_is f a a (Gf.mul a a) _ (HF.out.drewN _) (by first | assumption | exact Gf.mul_lt _ _ | exact Gf.quo_lt _ _ | exact Gf.pow_lt _ _ | exact Gf.xor_lt _ _ (by assumption) (by assumption) | omega) (by first | assumption | exact Gf.mul_lt _ _ | exact Gf.quo_lt _ _ | exact Gf.pow_lt _ _ | exact Gf.xor_lt _ _ (by assumption) (by assumption) | omega) rfl).mono ?_
  rintro e w3 ⟨rfl, n3, rfl⟩
  go_wp2_with fail
  refine (log_is f (Gf.mul a a) ((Gf.lg a + Gf.lg a) % 255) _ (HF.out.drewN _) (by first | assumption | exact Gf.mul_lt _ _ | exact Gf.quo_lt _ _ | exact Gf.pow_lt _ _ | exact Gf.xor_lt _ _ (by assumption) (by assumption) | omega) (by first | assumption | exact Gf.quo_ne _ _ (by omega) | omega) (Gf.lg_mul a a a0 a0)).mono ?_
  rintro e w3 ⟨rfl, n4, rfl⟩
  go_wp2_with fail
  refine (pow_at f 3 n (Gf.pow 3 n) _ _ (HF.out.drewN _) (by first | assumption | exact Gf.mul_lt _ _ | exact Gf.quo_lt _ _ | exact Gf.pow_lt _ _ | exact Gf.xor_lt _ _ (by assumption) (by assumption) | omega) (by first | rfl | omega | (rw [Int.tmod_eq_emod_of_nonneg (by omega)]; omega) | (rw [IntWalk.u64_in _ (by omega)]; try omega)) rfl).mono ?_
  rintro e w3 ⟨rfl, n5, rfl⟩
  go_wp2_with fail
  refine (log_is f (Gf.pow 3 n) (n % 255) _ (HF.out.drewN _) (by first | assumption | exact Gf.mul_lt _ _ | exact Gf.quo_lt _ _ | exact Gf.pow_lt _ _ | exact Gf.xor_lt _ _ (by assumption) (by assumption) | omega) (by first | assumption | exact Gf.quo_ne _ _ (by omega) | omega) (Gf.lg_pow3 n)).mono ?_
  rintro e w3 ⟨rfl, n6, rfl⟩
  go_wp2_with fail
  go_ret
  exact ⟨rfl, (HB.out.trans HC.out).drewN _⟩

set_option maxHeartbeats 1000000 in
set_option maxRecDepth 100000 in
theorem logs_apart (a b n : Nat) (ha : a < 256) (hb : b < 256) (a0 : a ≠ 0) (b0 : b ≠ 0) (hab : a ≠ b) (hn : n < 256) (w : World) :
    Calls Try.prog 9 #[.int .u8 (a : Int), .int .u8 (b : Int), .int .u8 (n : Int)] w (Holds w) := by
  have hz : ((a : Int) == 0) = false := by simpa using a0
  have hy : ((b : Int) == 0) = false := by simpa using b0
  have hl := Gf.lg_lt a
  have hk := Gf.lg_lt b
  have hm := Gf.mul_ne a b a0 b0
  have hp : Gf.pow 3 n ≠ 0 := by rw [Gf.pow_three]; exact (Gf.pw_bd n).1
  have hne : Gf.lg a ≠ Gf.lg b := fun h => hab (Gf.lg_inj a b ha hb a0 b0 h)
  have h1 : ((a : Int) == (b : Int)) = false := beq_eq_false_iff_ne.2 (by omega)
  have h2 : (((Gf.lg a : Nat) : Int) == ((Gf.lg b : Nat) : Int)) = false := beq_eq_false_iff_ne.2 (by omega)
  go_enter Try.func9, Try.ntmps9
  go_wp2_with fail
  refine (awake_any _).mono ?_
  rintro e w1 ⟨rfl, hx1⟩
  have HB := Lib.hid hx1
  clear hx1
  go_wp2_with fail
  refine (new_any _).mono ?_
  rintro e w2 ⟨f, rfl, hf, _, hx2⟩
  have HF := Lib.hid hf
  have HC := Lib.hid hx2
  clear hx2 hf
  go_wp2_with fail
  refine (log_is f a (Gf.lg a) _ HF.out (by first | assumption | exact Gf.mul_lt _ _ | exact Gf.quo_lt _ _ | exact Gf.pow_lt _ _ | exact Gf.xor_lt _ _ (by assumption) (by assumption) | omega) (by first | assumption | exact Gf.quo_ne _ _ (by omega) | omega) rfl).mono ?_
  rintro e w3 ⟨rfl, n1, rfl⟩
  go_wp2_with fail
  refine (log_is f b (Gf.lg b) _ (HF.out.drewN _) (by first | assumption | exact Gf.mul_lt _ _ | exact Gf.quo_lt _ _ | exact Gf.pow_lt _ _ | exact Gf.xor_lt _ _ (by assumption) (by assumption) | omega) (by first | assumption | exact Gf.quo_ne _ _ (by omega) | omega) rfl).mono ?_
  rintro e w3 ⟨rfl, n2, rfl⟩
  go_wp2_with fail
  refine (mul_is f a b (Gf.mul a b) _ (HF.out.drewN _) (by first | assumption | exact Gf.mul_lt _ _ | exact Gf.quo_lt _ _ | exact Gf.pow_lt _ _ | exact Gf.xor_lt _ _ (by assumption) (by assumption) | omega) (by first | assumption | exact Gf.mul_lt _ _ | exact Gf.quo_lt _ _ | exact Gf.pow_lt _ _ | exact Gf.xor_lt _ _ (by assumption) (by assumption) | omega) rfl).mono ?_
  rintro e w3 ⟨rfl, n3, rfl⟩
  go_wp2_with fail
  refine (log_is f (Gf.mul a b) ((Gf.lg a + Gf.lg b) % 255) _ (HF.out.drewN _) (by first | assumption | exact Gf.mul_lt _ _ | exact Gf.quo_lt _ _ | exact Gf.pow_lt _ _ | exact Gf.xor_lt _ _ (by assumption) (by assumption) | omega) (by first | assumption | exact Gf.quo_ne _ _ (by omega) | omega) (Gf.lg_mul a b a0 b0)).mono ?_
  rintro e w3 ⟨rfl, n4, rfl⟩
  go_wp2_with fail
  refine (pow_at f 3 n (Gf.pow 3 n) _ _ (HF.out.drewN _) (by first | assumption | exact Gf.mul_lt _ _ | exact Gf.quo_lt _ _ | exact Gf.pow_lt _ _ | exact Gf.xor_lt _ _ (by assumption) (by assumption) | omega) (by first | rfl | omega | (rw [Int.tmod_eq_emod_of_nonneg (by omega)]; omega) | (rw [IntWalk.u64_in _ (by omega)]; try omega)) rfl).mono ?_
  rintro e w3 ⟨rfl, n5, rfl⟩
  go_wp2_with fail
  refine (log_is f (Gf.pow 3 n) (n % 255) _ (HF.out.drewN _) (by first | assumption | exact Gf.mul_lt _ _ | exact Gf.quo_lt _ _ | exact Gf.pow_lt _ _ | exact Gf.xor_lt _ _ (by assumption) (by assumption) | omega) (by first | assumption | exact Gf.quo_ne _ _ (by omega) | omega) (Gf.lg_pow3 n)).mono ?_
  rintro e w3 ⟨rfl, n6, rfl⟩
  go_wp2_with fail
  go_ret
  exact ⟨rfl, (HB.out.trans HC.out).drewN _⟩

theorem logs_walk (a b n : Nat) (ha : a < 256) (hb : b < 256) (hn : n < 256) (w : World) :
    Calls Try.prog 9 #[.int .u8 (a : Int), .int .u8 (b : Int), .int .u8 (n : Int)] w (Holds w) := by
  by_cases a0 : a = 0
  · subst a0; exact logs_zero_left b n w
  by_cases b0 : b = 0
  · subst b0; exact logs_zero_right a a0 n w
  by_cases hab : a = b
  · subst hab; exact logs_same a n ha a0 hn w
  · exact logs_apart a b n ha hb a0 b0 hab hn w
end Go.Proofs.Ytbdhafibmkmmlaa
