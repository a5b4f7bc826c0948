/-
  The walk of the statement GfNil: of a nil field nothing is told. Conditions: none.
-/
import Derived.Test.YtbdhafibmkmmlaaNat
namespace Go.Proofs.Ytbdhafibmkmmlaa
open Go.RowKit

set_option maxHeartbeats 400000 in
theorem nil_walk (x y n : Int) (w : World) : Calls Try.prog 8 #[.int .u8 x, .int .u8 y, .int .u64 n] w (Holds w) := by
  go_enter Try.func8, Try.ntmps8
  go_wp2_with fail
  refine (awake_any _).mono ?_
  rintro e w1 ⟨rfl, hb⟩
  have HB := Lib.hid hb
  clear hb
  go_wp2_with fail
  refine (inv_nil _ _).mono ?_
  rintro e w2 ⟨rfl, n1, rfl⟩
  go_wp2_with fail
  refine (div_nil _ _ _).mono ?_
  rintro e w2 ⟨rfl, n2, rfl⟩
  go_wp2_with fail
  refine (log_nil _ _).mono ?_
  rintro e w2 ⟨rfl, n3, rfl⟩
  go_wp2_with fail
  refine (mul_nil _ _ _).mono ?_
  rintro e w2 ⟨rfl, n4, rfl⟩
  go_wp2_with fail
  refine (pow_nil _ _ _).mono ?_
  rintro e w2 ⟨rfl, n5, rfl⟩
  go_wp2_with fail
  go_ret
  exact ⟨rfl, HB.out.drewN _⟩
end Go.Proofs.Ytbdhafibmkmmlaa
