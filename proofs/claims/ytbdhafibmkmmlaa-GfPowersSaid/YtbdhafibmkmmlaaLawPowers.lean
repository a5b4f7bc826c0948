/-
  The walk of the statement GfPowers: powers add up, each byte to the power 256 is itself, and a logarithm's power of 3 is the byte. Conditions: none.
-/
import Derived.Test.YtbdhafibmkmmlaaNat
namespace Go.Proofs.Ytbdhafibmkmmlaa
open Go.RowKit

set_option maxHeartbeats 1000000 in
set_option maxRecDepth 100000 in
theorem powers_zero (n m : Nat) (hn : n < 4294967296) (hm : m < 4294967296) (w : World) :
    Calls Try.prog 6 #[.int .u8 0, .int .u32 (n : Int), .int .u32 (m : Int)] w (Holds w) := by
  have hnI : (n : Int) < 4294967296 := by omega
  have hmI : (m : Int) < 4294967296 := by omega
  go_enter Try.func6, Try.ntmps6
  go_wp2_with fail
  refine (awake_any _).mono ?_
  rintro e w1 ⟨rfl, hx1⟩
  have HB := Lib.hid hx1
  clear hx1
  go_wp2_with fail
  refine (new_any _).mono ?_
  rintro e w2 ⟨f, rfl, hf, _, hx2⟩
  have HF := Lib.hid hf
  have HC := Lib.hid hx2
  clear hx2 hf
  go_wp2_with fail
  refine (pow_at f 0 (n + m) (Gf.pow 0 (n + m)) _ _ HF.out (by first | assumption | exact Gf.mul_lt _ _ | exact Gf.quo_lt _ _ | exact Gf.pow_lt _ _ | exact Gf.xor_lt _ _ (by assumption) (by assumption) | omega) (by first | rfl | omega | (rw [Int.tmod_eq_emod_of_nonneg (by omega)]; omega) | (rw [IntWalk.u64_in _ (by omega)]; try omega)) rfl).mono ?_
  rintro e w3 ⟨rfl, n1, rfl⟩
  go_wp2_with fail
  refine (pow_at f 0 n (Gf.pow 0 n) _ _ (HF.out.drewN _) (by first | assumption | exact Gf.mul_lt _ _ | exact Gf.quo_lt _ _ | exact Gf.pow_lt _ _ | exact Gf.xor_lt _ _ (by assumption) (by assumption) | omega) (by first | rfl | omega | (rw [Int.tmod_eq_emod_of_nonneg (by omega)]; omega) | (rw [IntWalk.u64_in _ (by omega)]; try omega)) rfl).mono ?_
  rintro e w3 ⟨rfl, n2, rfl⟩
  go_wp2_with fail
  refine (pow_at f 0 m (Gf.pow 0 m) _ _ (HF.out.drewN _) (by first | assumption | exact Gf.mul_lt _ _ | exact Gf.quo_lt _ _ | exact Gf.pow_lt _ _ | exact Gf.xor_lt _ _ (by assumption) (by assumption) | omega) (by first | rfl | omega | (rw [Int.tmod_eq_emod_of_nonneg (by omega)]; omega) | (rw [IntWalk.u64_in _ (by omega)]; try omega)) rfl).mono ?_
  rintro e w3 ⟨rfl, n3, rfl⟩
  go_wp2_with fail
  refine (mul_is f (Gf.pow 0 n) (Gf.pow 0 m) (Gf.pow 0 (n + m)) _ (HF.out.drewN _) (by first | assumption | exact Gf.mul_lt _ _ | exact Gf.quo_lt _ _ | exact Gf.pow_lt _ _ | exact Gf.xor_lt _ _ (by assumption) (by assumption) | omega) (by first | assumption | exact Gf.mul_lt _ _ | exact Gf.quo_lt _ _ | exact Gf.pow_lt _ _ | exact Gf.xor_lt _ _ (by assumption) (by assumption) | omega) (Gf.pow_add 0 n m (by omega)).symm).mono ?_
  rintro e w3 ⟨rfl, n4, rfl⟩
  go_wp2_with fail
  refine (pow_is f 0 256 0 _ (HF.out.drewN _) (by first | assumption | exact Gf.mul_lt _ _ | exact Gf.quo_lt _ _ | exact Gf.pow_lt _ _ | exact Gf.xor_lt _ _ (by assumption) (by assumption) | omega) (Gf.pow_256 0 (by omega))).mono ?_
  rintro e w3 ⟨rfl, n5, rfl⟩
  go_wp2_with fail
  refine (pow_is f 0 0 1 _ (HF.out.drewN _) (by first | assumption | exact Gf.mul_lt _ _ | exact Gf.quo_lt _ _ | exact Gf.pow_lt _ _ | exact Gf.xor_lt _ _ (by assumption) (by assumption) | omega) (Gf.pow_zero 0)).mono ?_
  rintro e w3 ⟨rfl, n6, rfl⟩
  go_wp2_with fail
  refine (pow_is f 0 1 0 _ (HF.out.drewN _) (by first | assumption | exact Gf.mul_lt _ _ | exact Gf.quo_lt _ _ | exact Gf.pow_lt _ _ | exact Gf.xor_lt _ _ (by assumption) (by assumption) | omega) (Gf.pow_one 0 (by omega))).mono ?_
  rintro e w3 ⟨rfl, n7, rfl⟩
  go_wp2_with fail
  refine (pow_at f 0 (n + 1) 0 _ _ (HF.out.drewN _) (by first | assumption | exact Gf.mul_lt _ _ | exact Gf.quo_lt _ _ | exact Gf.pow_lt _ _ | exact Gf.xor_lt _ _ (by assumption) (by assumption) | omega) (by first | rfl | omega | (rw [Int.tmod_eq_emod_of_nonneg (by omega)]; omega) | (rw [IntWalk.u64_in _ (by omega)]; try omega)) (Gf.zero_pow _ (by omega))).mono ?_
  rintro e w3 ⟨rfl, n8, rfl⟩
  go_wp2_with fail
  go_ret
  exact ⟨rfl, (HB.out.trans HC.out).drewN _⟩

set_option maxHeartbeats 1000000 in
set_option maxRecDepth 100000 in
theorem powers_of (a n m : Nat) (ha : a < 256) (a0 : a ≠ 0) (hn : n < 4294967296) (hm : m < 4294967296) (w : World) :
    Calls Try.prog 6 #[.int .u8 (a : Int), .int .u32 (n : Int), .int .u32 (m : Int)] w (Holds w) := by
  have hz : ((a : Int) == 0) = false := by simpa using a0
  have hnI : (n : Int) < 4294967296 := by omega
  have hmI : (m : Int) < 4294967296 := by omega
  obtain ⟨l, hlg⟩ : ∃ l, Gf.lg a = l := ⟨_, rfl⟩
  have hl : l < 255 := by rw [← hlg]; exact Gf.lg_lt a
  have hp : Gf.pow 3 l = a := by rw [← hlg]; exact Gf.pow_lg a ha a0
  have HL := Lib.hid hlg
  have HP := Lib.hid hp
  clear hlg hp
  have hlI : (l : Int) < 255 := by omega
  go_enter Try.func6, Try.ntmps6
  go_wp2_with fail
  refine (awake_any _).mono ?_
  rintro e w1 ⟨rfl, hx1⟩
  have HB := Lib.hid hx1
  clear hx1
  go_wp2_with fail
  refine (new_any _).mono ?_
  rintro e w2 ⟨f, rfl, hf, _, hx2⟩
  have HF := Lib.hid hf
  have HC := Lib.hid hx2
  clear hx2 hf
  go_wp2_with fail
  refine (pow_at f a (n + m) (Gf.pow a (n + m)) _ _ HF.out (by first | assumption | exact Gf.mul_lt _ _ | exact Gf.quo_lt _ _ | exact Gf.pow_lt _ _ | exact Gf.xor_lt _ _ (by assumption) (by assumption) | omega) (by first | rfl | omega | (rw [Int.tmod_eq_emod_of_nonneg (by omega)]; omega) | (rw [IntWalk.u64_in _ (by omega)]; try omega)) rfl).mono ?_
  rintro e w3 ⟨rfl, n1, rfl⟩
  go_wp2_with fail
  refine (pow_at f a n (Gf.pow a n) _ _ (HF.out.drewN _) (by first | assumption | exact Gf.mul_lt _ _ | exact Gf.quo_lt _ _ | exact Gf.pow_lt _ _ | exact Gf.xor_lt _ _ (by assumption) (by assumption) | omega) (by first | rfl | omega | (rw [Int.tmod_eq_emod_of_nonneg (by omega)]; omega) | (rw [IntWalk.u64_in _ (by omega)]; try omega)) rfl).mono ?_
  rintro e w3 ⟨rfl, n2, rfl⟩
  go_wp2_with fail
  refine (pow_at f a m (Gf.pow a m) _ _ (HF.out.drewN _) (by first | assumption | exact Gf.mul_lt _ _ | exact Gf.quo_lt _ _ | exact Gf.pow_lt _ _ | exact Gf.xor_lt _ _ (by assumption) (by assumption) | omega) (by first | rfl | omega | (rw [Int.tmod_eq_emod_of_nonneg (by omega)]; omega) | (rw [IntWalk.u64_in _ (by omega)]; try omega)) rfl).mono ?_
  rintro e w3 ⟨rfl, n3, rfl⟩
  go_wp2_with fail
  refine (mul_is f (Gf.pow a n) (Gf.pow a m) (Gf.pow a (n + m)) _ (HF.out.drewN _) (by first | assumption | exact Gf.mul_lt _ _ | exact Gf.quo_lt _ _ | exact Gf.pow_lt _ _ | exact Gf.xor_lt _ _ (by assumption) (by assumption) | omega) (by first | assumption | exact Gf.mul_lt _ _ | exact Gf.quo_lt _ _ | exact Gf.pow_lt _ _ | exact Gf.xor_lt _ _ (by assumption) (by assumption) | omega) (Gf.pow_add a n m (by omega)).symm).mono ?_
  rintro e w3 ⟨rfl, n4, rfl⟩
  go_wp2_with fail
  refine (pow_is f a 256 a _ (HF.out.drewN _) (by first | assumption | exact Gf.mul_lt _ _ | exact Gf.quo_lt _ _ | exact Gf.pow_lt _ _ | exact Gf.xor_lt _ _ (by assumption) (by assumption) | omega) (Gf.pow_256 a (by omega))).mono ?_
  rintro e w3 ⟨rfl, n5, rfl⟩
  go_wp2_with fail
  refine (pow_is f a 0 1 _ (HF.out.drewN _) (by first | assumption | exact Gf.mul_lt _ _ | exact Gf.quo_lt _ _ | exact Gf.pow_lt _ _ | exact Gf.xor_lt _ _ (by assumption) (by assumption) | omega) (Gf.pow_zero a)).mono ?_
  rintro e w3 ⟨rfl, n6, rfl⟩
  go_wp2_with fail
  refine (pow_is f a 1 a _ (HF.out.drewN _) (by first | assumption | exact Gf.mul_lt _ _ | exact Gf.quo_lt _ _ | exact Gf.pow_lt _ _ | exact Gf.xor_lt _ _ (by assumption) (by assumption) | omega) (Gf.pow_one a (by omega))).mono ?_
  rintro e w3 ⟨rfl, n7, rfl⟩
  go_wp2_with fail
  refine (log_is f a l _ (HF.out.drewN _) (by first | assumption | exact Gf.mul_lt _ _ | exact Gf.quo_lt _ _ | exact Gf.pow_lt _ _ | exact Gf.xor_lt _ _ (by assumption) (by assumption) | omega) (by first | assumption | exact Gf.quo_ne _ _ (by omega) | omega) HL.out).mono ?_
  rintro e w3 ⟨rfl, n8, rfl⟩
  go_wp2_with fail
  refine (pow_is f a 255 1 _ (HF.out.drewN _) (by first | assumption | exact Gf.mul_lt _ _ | exact Gf.quo_lt _ _ | exact Gf.pow_lt _ _ | exact Gf.xor_lt _ _ (by assumption) (by assumption) | omega) (Gf.pow_255 a ha a0)).mono ?_
  rintro e w3 ⟨rfl, n9, rfl⟩
  go_wp2_with fail
  refine (pow_at f 3 l a _ _ (HF.out.drewN _) (by first | assumption | exact Gf.mul_lt _ _ | exact Gf.quo_lt _ _ | exact Gf.pow_lt _ _ | exact Gf.xor_lt _ _ (by assumption) (by assumption) | omega) (by first | rfl | omega | (rw [Int.tmod_eq_emod_of_nonneg (by omega)]; omega) | (rw [IntWalk.u64_in _ (by omega)]; try omega)) HP.out).mono ?_
  rintro e w3 ⟨rfl, n10, rfl⟩
  go_wp2_with fail
  refine (pow_at f a n (Gf.pow a n) _ _ (HF.out.drewN _) (by first | assumption | exact Gf.mul_lt _ _ | exact Gf.quo_lt _ _ | exact Gf.pow_lt _ _ | exact Gf.xor_lt _ _ (by assumption) (by assumption) | omega) (by first | rfl | omega | (rw [Int.tmod_eq_emod_of_nonneg (by omega)]; omega) | (rw [IntWalk.u64_in _ (by omega)]; try omega)) rfl).mono ?_
  rintro e w3 ⟨rfl, n11, rfl⟩
  go_wp2_with fail
  refine (pow_at f a (n % 255) (Gf.pow a n) _ _ (HF.out.drewN _) (by first | assumption | exact Gf.mul_lt _ _ | exact Gf.quo_lt _ _ | exact Gf.pow_lt _ _ | exact Gf.xor_lt _ _ (by assumption) (by assumption) | omega) (by first | rfl | omega | (rw [Int.tmod_eq_emod_of_nonneg (by omega)]; omega) | (rw [IntWalk.u64_in _ (by omega)]; try omega)) (Gf.pow_mod a n ha a0)).mono ?_
  rintro e w3 ⟨rfl, n12, rfl⟩
  go_wp2_with fail
  go_ret
  exact ⟨rfl, (HB.out.trans HC.out).drewN _⟩

theorem powers_walk (a n m : Nat) (ha : a < 256) (hn : n < 4294967296) (hm : m < 4294967296) (w : World) :
    Calls Try.prog 6 #[.int .u8 (a : Int), .int .u32 (n : Int), .int .u32 (m : Int)] w (Holds w) := by
  by_cases a0 : a = 0
  · subst a0; exact powers_zero n m hn hm w
  · exact powers_of a n m ha a0 hn hm w
end Go.Proofs.Ytbdhafibmkmmlaa
