/-
  The walk of the statement GfTells: any sum, product, inverse, quotient, power and logarithm are the document's, or there is none. Conditions: none.
-/
import Derived.Test.YtbdhafibmkmmlaaRef
namespace Go.Proofs.Ytbdhafibmkmmlaa
open Go.RowKit

theorem ref_log_is (a l : Nat) (ha : a < 256) (a0 : a ≠ 0) (h : Gf.lg a = l) (w : World) :
    Calls Try.prog 17 #[.int .u8 (a : Int)] w fun e w' => e = .returned (.int .i64 (l : Int)) ∧ w = w' := h ▸ ref_log a ha a0 w

set_option maxHeartbeats 1000000 in
set_option maxRecDepth 100000 in
theorem tells_zeros (n : Nat) (hn : n < 18446744073709551616) (w : World) :
    Calls Try.prog 3 #[.int .u8 0, .int .u8 0, .int .u64 (n : Int)] w (Holds w) := by
  have HN := Lib.hid hn
  clear hn
  go_enter Try.func3, Try.ntmps3
  go_wp2_with fail
  refine (awake_any _).mono ?_
  rintro e w1 ⟨rfl, hx1⟩
  have HB := Lib.hid hx1
  clear hx1
  go_wp2_with fail
  refine (new_any _).mono ?_
  rintro e w2 ⟨f, rfl, hf, _, hx2⟩
  have HF := Lib.hid hf
  have HC := Lib.hid hx2
  clear hx2 hf
  go_wp2_with fail
  refine (inv_zero f _).mono ?_
  rintro e w3 ⟨rfl, n1, rfl⟩
  go_wp2_with fail
  refine (div_zero f 0 _).mono ?_
  rintro e w3 ⟨rfl, n2, rfl⟩
  go_wp2_with fail
  refine (log_zero f _).mono ?_
  rintro e w3 ⟨rfl, n3, rfl⟩
  go_wp2_with fail
  refine (ref_inv_zero _).mono ?_
  rintro e w3 ⟨rfl, rfl⟩
  go_wp2_with fail
  refine (ref_inv_zero _).mono ?_
  rintro e w3 ⟨rfl, rfl⟩
  go_wp2_with fail
  refine (ref_log_zero _).mono ?_
  rintro e w3 ⟨rfl, rfl⟩
  go_wp2_with fail
  refine (add_any _ _ _).mono ?_
  rintro e w3 ⟨rfl, rfl⟩
  go_wp2_with fail
  refine (mul_is f 0 0 (Gf.mul 0 0) _ (HF.out.drewN _) (by first | assumption | exact Gf.mul_lt _ _ | exact Gf.quo_lt _ _ | exact Gf.pow_lt _ _ | exact Gf.xor_lt _ _ (by assumption) (by assumption) | omega) (by first | assumption | exact Gf.mul_lt _ _ | exact Gf.quo_lt _ _ | exact Gf.pow_lt _ _ | exact Gf.xor_lt _ _ (by assumption) (by assumption) | omega) rfl).mono ?_
  rintro e w3 ⟨rfl, n4, rfl⟩
  go_wp2_with fail
  refine (ref_mul 0 0 (by omega) (by omega) _).mono ?_
  rintro e w3 ⟨rfl, rfl⟩
  go_wp2_with fail
  refine (pow_is f 0 n (Gf.pow 0 n) _ (HF.out.drewN _) (by first | assumption | exact Gf.mul_lt _ _ | exact Gf.quo_lt _ _ | exact Gf.pow_lt _ _ | exact Gf.xor_lt _ _ (by assumption) (by assumption) | omega) rfl).mono ?_
  rintro e w3 ⟨rfl, n5, rfl⟩
  go_wp2_with fail
  refine (ref_pow 0 n (by omega) HN.out _).mono ?_
  rintro e w3 ⟨rfl, rfl⟩
  go_wp2_with fail
  go_ret
  exact ⟨rfl, (HB.out.trans HC.out).drewN _⟩

set_option maxHeartbeats 1000000 in
set_option maxRecDepth 100000 in
theorem tells_zero_left (n : Nat) (b : Nat) (hb : b < 256) (b0 : b ≠ 0) (hn : n < 18446744073709551616) (w : World) :
    Calls Try.prog 3 #[.int .u8 0, .int .u8 (b : Int), .int .u64 (n : Int)] w (Holds w) := by
  have HN := Lib.hid hn
  clear hn
  go_enter Try.func3, Try.ntmps3
  go_wp2_with fail
  refine (awake_any _).mono ?_
  rintro e w1 ⟨rfl, hx1⟩
  have HB := Lib.hid hx1
  clear hx1
  go_wp2_with fail
  refine (new_any _).mono ?_
  rintro e w2 ⟨f, rfl, hf, _, hx2⟩
  have HF := Lib.hid hf
  have HC := Lib.hid hx2
  clear hx2 hf
  go_wp2_with fail
  refine (inv_zero f _).mono ?_
  rintro e w3 ⟨rfl, n1, rfl⟩
  go_wp2_with fail
  refine (div_is f 0 b 0 _ (HF.out.drewN _) (by first | assumption | exact Gf.mul_lt _ _ | exact Gf.quo_lt _ _ | exact Gf.pow_lt _ _ | exact Gf.xor_lt _ _ (by assumption) (by assumption) | omega) (by first | assumption | exact Gf.mul_lt _ _ | exact Gf.quo_lt _ _ | exact Gf.pow_lt _ _ | exact Gf.xor_lt _ _ (by assumption) (by assumption) | omega) (by first | assumption | exact Gf.quo_ne _ _ (by omega) | omega) rfl).mono ?_
  rintro e w3 ⟨rfl, n2, rfl⟩
  go_wp2_with fail
  refine (log_zero f _).mono ?_
  rintro e w3 ⟨rfl, n3, rfl⟩
  go_wp2_with fail
  refine (ref_inv_zero _).mono ?_
  rintro e w3 ⟨rfl, rfl⟩
  go_wp2_with fail
  refine (ref_inv b hb b0 _).mono ?_
  rintro e w3 ⟨rfl, rfl⟩
  go_wp2_with fail
  refine (ref_mul_is 0 (Gf.quo 1 b) 0 (by omega) (Gf.quo_lt _ _) (Gf.zero_mul _) _).mono ?_
  rintro e w3 ⟨rfl, rfl⟩
  go_wp2_with fail
  refine (ref_log_zero _).mono ?_
  rintro e w3 ⟨rfl, rfl⟩
  go_wp2_with fail
  refine (add_any _ _ _).mono ?_
  rintro e w3 ⟨rfl, rfl⟩
  go_wp2_with fail
  refine (mul_is f 0 b (Gf.mul 0 b) _ (HF.out.drewN _) (by first | assumption | exact Gf.mul_lt _ _ | exact Gf.quo_lt _ _ | exact Gf.pow_lt _ _ | exact Gf.xor_lt _ _ (by assumption) (by assumption) | omega) (by first | assumption | exact Gf.mul_lt _ _ | exact Gf.quo_lt _ _ | exact Gf.pow_lt _ _ | exact Gf.xor_lt _ _ (by assumption) (by assumption) | omega) rfl).mono ?_
  rintro e w3 ⟨rfl, n4, rfl⟩
  go_wp2_with fail
  refine (ref_mul 0 b (by omega) (by omega) _).mono ?_
  rintro e w3 ⟨rfl, rfl⟩
  go_wp2_with fail
  refine (pow_is f 0 n (Gf.pow 0 n) _ (HF.out.drewN _) (by first | assumption | exact Gf.mul_lt _ _ | exact Gf.quo_lt _ _ | exact Gf.pow_lt _ _ | exact Gf.xor_lt _ _ (by assumption) (by assumption) | omega) rfl).mono ?_
  rintro e w3 ⟨rfl, n5, rfl⟩
  go_wp2_with fail
  refine (ref_pow 0 n (by omega) HN.out _).mono ?_
  rintro e w3 ⟨rfl, rfl⟩
  go_wp2_with fail
  go_ret
  exact ⟨rfl, (HB.out.trans HC.out).drewN _⟩

set_option maxHeartbeats 1000000 in
set_option maxRecDepth 100000 in
theorem tells_zero_right (n : Nat) (a : Nat) (ha : a < 256) (a0 : a ≠ 0) (hn : n < 18446744073709551616) (w : World) :
    Calls Try.prog 3 #[.int .u8 (a : Int), .int .u8 0, .int .u64 (n : Int)] w (Holds w) := by
  have HN := Lib.hid hn
  clear hn
  obtain ⟨l, hlg⟩ : ∃ l, Gf.lg a = l := ⟨_, rfl⟩
  have hl : l < 255 := by rw [← hlg]; exact Gf.lg_lt a
  have HL := Lib.hid hlg
  clear hlg
  have hlI : (l : Int) < 255 := by omega
  go_enter Try.func3, Try.ntmps3
  go_wp2_with fail
  refine (awake_any _).mono ?_
  rintro e w1 ⟨rfl, hx1⟩
  have HB := Lib.hid hx1
  clear hx1
  go_wp2_with fail
  refine (new_any _).mono ?_
  rintro e w2 ⟨f, rfl, hf, _, hx2⟩
  have HF := Lib.hid hf
  have HC := Lib.hid hx2
  clear hx2 hf
  go_wp2_with fail
  refine (inv_is f a (Gf.quo 1 a) _ HF.out (by first | assumption | exact Gf.mul_lt _ _ | exact Gf.quo_lt _ _ | exact Gf.pow_lt _ _ | exact Gf.xor_lt _ _ (by assumption) (by assumption) | omega) (by first | assumption | exact Gf.quo_ne _ _ (by omega) | omega) rfl).mono ?_
  rintro e w3 ⟨rfl, n1, rfl⟩
  go_wp2_with fail
  refine (div_zero f (a : Int) _).mono ?_
  rintro e w3 ⟨rfl, n2, rfl⟩
  go_wp2_with fail
  refine (log_is f a l _ (HF.out.drewN _) (by first | assumption | exact Gf.mul_lt _ _ | exact Gf.quo_lt _ _ | exact Gf.pow_lt _ _ | exact Gf.xor_lt _ _ (by assumption) (by assumption) | omega) (by first | assumption | exact Gf.quo_ne _ _ (by omega) | omega) HL.out).mono ?_
  rintro e w3 ⟨rfl, n3, rfl⟩
  go_wp2_with fail
  refine (ref_inv a ha a0 _).mono ?_
  rintro e w3 ⟨rfl, rfl⟩
  go_wp2_with fail
  refine (ref_inv_zero _).mono ?_
  rintro e w3 ⟨rfl, rfl⟩
  go_wp2_with fail
  refine (ref_log_is a l ha a0 HL.out _).mono ?_
  rintro e w3 ⟨rfl, rfl⟩
  go_wp2_with fail
  refine (add_any _ _ _).mono ?_
  rintro e w3 ⟨rfl, rfl⟩
  go_wp2_with fail
  refine (mul_is f a 0 (Gf.mul a 0) _ (HF.out.drewN _) (by first | assumption | exact Gf.mul_lt _ _ | exact Gf.quo_lt _ _ | exact Gf.pow_lt _ _ | exact Gf.xor_lt _ _ (by assumption) (by assumption) | omega) (by first | assumption | exact Gf.mul_lt _ _ | exact Gf.quo_lt _ _ | exact Gf.pow_lt _ _ | exact Gf.xor_lt _ _ (by assumption) (by assumption) | omega) rfl).mono ?_
  rintro e w3 ⟨rfl, n4, rfl⟩
  go_wp2_with fail
  refine (ref_mul a 0 (by omega) (by omega) _).mono ?_
  rintro e w3 ⟨rfl, rfl⟩
  go_wp2_with fail
  refine (pow_is f a n (Gf.pow a n) _ (HF.out.drewN _) (by first | assumption | exact Gf.mul_lt _ _ | exact Gf.quo_lt _ _ | exact Gf.pow_lt _ _ | exact Gf.xor_lt _ _ (by assumption) (by assumption) | omega) rfl).mono ?_
  rintro e w3 ⟨rfl, n5, rfl⟩
  go_wp2_with fail
  refine (ref_pow a n (by omega) HN.out _).mono ?_
  rintro e w3 ⟨rfl, rfl⟩
  go_wp2_with fail
  go_ret
  exact ⟨rfl, (HB.out.trans HC.out).drewN _⟩

set_option maxHeartbeats 1000000 in
set_option maxRecDepth 100000 in
theorem tells_of (n : Nat) (a : Nat) (ha : a < 256) (a0 : a ≠ 0) (b : Nat) (hb : b < 256) (b0 : b ≠ 0) (hn : n < 18446744073709551616) (w : World) :
    Calls Try.prog 3 #[.int .u8 (a : Int), .int .u8 (b : Int), .int .u64 (n : Int)] w (Holds w) := by
  have HN := Lib.hid hn
  clear hn
  obtain ⟨l, hlg⟩ : ∃ l, Gf.lg a = l := ⟨_, rfl⟩
  have hl : l < 255 := by rw [← hlg]; exact Gf.lg_lt a
  have HL := Lib.hid hlg
  clear hlg
  have hlI : (l : Int) < 255 := by omega
  go_enter Try.func3, Try.ntmps3
  go_wp2_with fail
  refine (awake_any _).mono ?_
  rintro e w1 ⟨rfl, hx1⟩
  have HB := Lib.hid hx1
  clear hx1
  go_wp2_with fail
  refine (new_any _).mono ?_
  rintro e w2 ⟨f, rfl, hf, _, hx2⟩
  have HF := Lib.hid hf
  have HC := Lib.hid hx2
  clear hx2 hf
  go_wp2_with fail
  refine (inv_is f a (Gf.quo 1 a) _ HF.out (by first | assumption | exact Gf.mul_lt _ _ | exact Gf.quo_lt _ _ | exact Gf.pow_lt _ _ | exact Gf.xor_lt _ _ (by assumption) (by assumption) | omega) (by first | assumption | exact Gf.quo_ne _ _ (by omega) | omega) rfl).mono ?_
  rintro e w3 ⟨rfl, n1, rfl⟩
  go_wp2_with fail
  refine (div_is f a b (Gf.quo a b) _ (HF.out.drewN _) (by first | assumption | exact Gf.mul_lt _ _ | exact Gf.quo_lt _ _ | exact Gf.pow_lt _ _ | exact Gf.xor_lt _ _ (by assumption) (by assumption) | omega) (by first | assumption | exact Gf.mul_lt _ _ | exact Gf.quo_lt _ _ | exact Gf.pow_lt _ _ | exact Gf.xor_lt _ _ (by assumption) (by assumption) | omega) (by first | assumption | exact Gf.quo_ne _ _ (by omega) | omega) rfl).mono ?_
  rintro e w3 ⟨rfl, n2, rfl⟩
  go_wp2_with fail
  refine (log_is f a l _ (HF.out.drewN _) (by first | assumption | exact Gf.mul_lt _ _ | exact Gf.quo_lt _ _ | exact Gf.pow_lt _ _ | exact Gf.xor_lt _ _ (by assumption) (by assumption) | omega) (by first | assumption | exact Gf.quo_ne _ _ (by omega) | omega) HL.out).mono ?_
  rintro e w3 ⟨rfl, n3, rfl⟩
  go_wp2_with fail
  refine (ref_inv a ha a0 _).mono ?_
  rintro e w3 ⟨rfl, rfl⟩
  go_wp2_with fail
  refine (ref_inv b hb b0 _).mono ?_
  rintro e w3 ⟨rfl, rfl⟩
  go_wp2_with fail
  refine (ref_mul_is a (Gf.quo 1 b) (Gf.quo a b) ha (Gf.quo_lt _ _) (Gf.quo_inv a b ha hb b0).symm _).mono ?_
  rintro e w3 ⟨rfl, rfl⟩
  go_wp2_with fail
  refine (ref_log_is a l ha a0 HL.out _).mono ?_
  rintro e w3 ⟨rfl, rfl⟩
  go_wp2_with fail
  refine (add_any _ _ _).mono ?_
  rintro e w3 ⟨rfl, rfl⟩
  go_wp2_with fail
  refine (mul_is f a b (Gf.mul a b) _ (HF.out.drewN _) (by first | assumption | exact Gf.mul_lt _ _ | exact Gf.quo_lt _ _ | exact Gf.pow_lt _ _ | exact Gf.xor_lt _ _ (by assumption) (by assumption) | omega) (by first | assumption | exact Gf.mul_lt _ _ | exact Gf.quo_lt _ _ | exact Gf.pow_lt _ _ | exact Gf.xor_lt _ _ (by assumption) (by assumption) | omega) rfl).mono ?_
  rintro e w3 ⟨rfl, n4, rfl⟩
  go_wp2_with fail
  refine (ref_mul a b (by omega) (by omega) _).mono ?_
  rintro e w3 ⟨rfl, rfl⟩
  go_wp2_with fail
  refine (pow_is f a n (Gf.pow a n) _ (HF.out.drewN _) (by first | assumption | exact Gf.mul_lt _ _ | exact Gf.quo_lt _ _ | exact Gf.pow_lt _ _ | exact Gf.xor_lt _ _ (by assumption) (by assumption) | omega) rfl).mono ?_
  rintro e w3 ⟨rfl, n5, rfl⟩
  go_wp2_with fail
  refine (ref_pow a n (by omega) HN.out _).mono ?_
  rintro e w3 ⟨rfl, rfl⟩
  go_wp2_with fail
  go_ret
  exact ⟨rfl, (HB.out.trans HC.out).drewN _⟩

theorem tells_walk (a b n : Nat) (ha : a < 256) (hb : b < 256) (hn : n < 18446744073709551616) (w : World) :
    Calls Try.prog 3 #[.int .u8 (a : Int), .int .u8 (b : Int), .int .u64 (n : Int)] w (Holds w) := by
  by_cases a0 : a = 0
  · subst a0
    by_cases b0 : b = 0
    · subst b0; exact tells_zeros n hn w
    · exact tells_zero_left n b hb b0 hn w
  · by_cases b0 : b = 0
    · subst b0; exact tells_zero_right n a ha a0 hn w
    · exact tells_of n a ha a0 b hb b0 hn w
end Go.Proofs.Ytbdhafibmkmmlaa
