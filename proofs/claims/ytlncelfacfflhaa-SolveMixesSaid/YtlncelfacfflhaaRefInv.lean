/-
  The document's own answer for layer 1, as the statements hold it: the inverse, by trying. Conditions: none beyond the kinds of the arguments.
-/
import Derived.Test.YtlncelfacfflhaaRefMul
namespace Go.Proofs.Ytlncelfacfflhaa
open Go.RowKit

/-! The inverse, by trying. -/
def Tried (a : Nat) (i : Value) : Prop := ∃ k : Nat, k ≤ 256 ∧ i = .int .i64 (k : Int) ∧ ∀ j, j < k → Gf.mul a j ≠ 1

set_option maxHeartbeats 400000 in
set_option maxRecDepth 100000 in
theorem ref_inv (a : Nat) (ha : a < 256) (a0 : a ≠ 0) (w : World) :
    Calls Try.prog 27 #[.int .u8 (a : Int)] w fun e w' => e = .returned (.tuple #[.int .u8 ((Gf.quo 1 a : Nat) : Int), .bool true]) ∧ w = w' := by
  go_enter Try.func27, Try.ntmps27
  go_wp2
  go_loop [4] (fun i => Tried a i) (fun i => 256 - (intOf i).toNat)
  case atStart => exact ⟨0, by omega, rfl, fun j h => by omega⟩
  case round =>
    obtain ⟨k, hk, rfl, hno⟩ := hrel
    have hq := Gf.quo_mul 1 a (by omega) ha a0
    have hql := Gf.quo_lt 1 a
    by_cases he : k = 256
    · exact absurd ((Gf.mul_comm _ _).trans hq) (hno _ (by omega))
    have hkI : (k : Int) < 256 := by omega
    by_cases h1 : Gf.mul a k = 1
    · have hv : Gf.quo 1 a = k := Gf.quo_of 1 a k (by omega) ha a0 (by omega) ((Gf.mul_comm _ _).trans h1)
      have HV := Lib.hid hv
      have H1 := Lib.hid h1
      clear hv h1 hq hno hql
      go_wp2_with fail
      refine (ref_mul_is a k 1 ha (by omega) H1.out _).mono ?_
      rintro e w' ⟨rfl, rfl⟩
      go_wp2_with fail
      go_ret2
      exact ⟨by rw [HV.out]; rfl, rfl⟩
    · have hne : (((Gf.mul a k : Nat) : Int) == 1) = false := beq_eq_false_iff_ne.2 (by omega)
      have HN := Lib.hid hno
      have H1 := Lib.hid h1
      clear hno h1 hq hql
      go_wp2_with fail
      refine (ref_mul a k ha (by omega) _).mono ?_
      rintro e w' ⟨rfl, rfl⟩
      go_wp2_with fail
      go_round
      case rel => exact ⟨k + 1, by omega, by go_num, fun j hj => by
        by_cases e : j = k
        · subst e; exact H1.out
        · exact HN.out j (by omega)⟩
      case measure => simp [intOf]; omega

set_option maxHeartbeats 400000 in
set_option maxRecDepth 100000 in
theorem ref_inv_zero (w : World) :
    Calls Try.prog 27 #[.int .u8 0] w fun e w' => e = .returned (.tuple #[.int .u8 0, .bool false]) ∧ w = w' := by
  go_enter Try.func27, Try.ntmps27
  go_wp2
  go_loop [4] (fun i => Tried 0 i) (fun i => 256 - (intOf i).toNat)
  case atStart => exact ⟨0, by omega, rfl, fun j h => by omega⟩
  case round =>
    obtain ⟨k, hk, rfl, hno⟩ := hrel
    clear hno
    by_cases he : k = 256
    · subst he
      go_wp2_with fail
      go_ret2
      exact ⟨rfl, rfl⟩
    have hkI : (k : Int) < 256 := by omega
    go_wp2_with fail
    refine (ref_mul_is 0 k 0 (by omega) (by omega) (Gf.zero_mul k) _).mono ?_
    rintro e w' ⟨rfl, rfl⟩
    go_wp2_with fail
    go_round
    case rel => exact ⟨k + 1, by omega, by go_num, fun j _ => by rw [Gf.zero_mul]; omega⟩
    case measure => simp [intOf]; omega

end Go.Proofs.Ytlncelfacfflhaa
