/-
  The walk of the statement GfField: sums and products of any three bytes keep a field's laws. Conditions: none.
-/
import Derived.Test.YtbdhafibmkmmlaaNat
namespace Go.Proofs.Ytbdhafibmkmmlaa
open Go.RowKit

set_option maxHeartbeats 1000000 in
set_option maxRecDepth 100000 in
theorem field_walk (a b c : Nat) (ha : a < 256) (hb : b < 256) (hc : c < 256) (w : World) :
    Calls Try.prog 4 #[.int .u8 (a : Int), .int .u8 (b : Int), .int .u8 (c : Int)] w (Holds w) := by
  have hbc := Gf.xor_lt b c hb hc
  have hab := Gf.xor_lt a b ha hb
  go_enter Try.func4, Try.ntmps4
  go_wp2_with fail
  refine (awake_any _).mono ?_
  rintro e w1 ⟨rfl, hx1⟩
  have HB := Lib.hid hx1
  clear hx1
  go_wp2_with fail
  refine (new_any _).mono ?_
  rintro e w2 ⟨f, rfl, hf, _, hx2⟩
  have HF := Lib.hid hf
  have HC := Lib.hid hx2
  clear hx2 hf
  go_wp2_with fail
  refine (mul_is f a b (Gf.mul a b) _ HF.out (by first | assumption | exact Gf.mul_lt _ _ | omega) (by first | assumption | exact Gf.mul_lt _ _ | omega) rfl).mono ?_
  rintro e w3 ⟨rfl, n1, rfl⟩
  go_wp2_with fail
  refine (mul_is f b a (Gf.mul a b) _ (HF.out.drewN _) (by first | assumption | exact Gf.mul_lt _ _ | omega) (by first | assumption | exact Gf.mul_lt _ _ | omega) (Gf.mul_comm b a)).mono ?_
  rintro e w3 ⟨rfl, n2, rfl⟩
  go_wp2_with fail
  refine (mul_is f b c (Gf.mul b c) _ (HF.out.drewN _) (by first | assumption | exact Gf.mul_lt _ _ | omega) (by first | assumption | exact Gf.mul_lt _ _ | omega) rfl).mono ?_
  rintro e w3 ⟨rfl, n3, rfl⟩
  go_wp2_with fail
  refine (mul_is f a (Gf.mul b c) (Gf.mul a (Gf.mul b c)) _ (HF.out.drewN _) (by first | assumption | exact Gf.mul_lt _ _ | omega) (by first | assumption | exact Gf.mul_lt _ _ | omega) rfl).mono ?_
  rintro e w3 ⟨rfl, n4, rfl⟩
  go_wp2_with fail
  refine (mul_is f a b (Gf.mul a b) _ (HF.out.drewN _) (by first | assumption | exact Gf.mul_lt _ _ | omega) (by first | assumption | exact Gf.mul_lt _ _ | omega) rfl).mono ?_
  rintro e w3 ⟨rfl, n5, rfl⟩
  go_wp2_with fail
  refine (mul_is f (Gf.mul a b) c (Gf.mul a (Gf.mul b c)) _ (HF.out.drewN _) (by first | assumption | exact Gf.mul_lt _ _ | omega) (by first | assumption | exact Gf.mul_lt _ _ | omega) (Gf.mul_assoc a b c ha hb hc)).mono ?_
  rintro e w3 ⟨rfl, n6, rfl⟩
  go_wp2_with fail
  refine (add_is b c (b ^^^ c) (by first | assumption | exact Gf.mul_lt _ _ | omega) (by first | assumption | exact Gf.mul_lt _ _ | omega) rfl _).mono ?_
  rintro e w3 ⟨rfl, rfl⟩
  go_wp2_with fail
  refine (mul_is f a (b ^^^ c) (Gf.mul a (b ^^^ c)) _ (HF.out.drewN _) (by first | assumption | exact Gf.mul_lt _ _ | omega) (by first | assumption | exact Gf.mul_lt _ _ | omega) rfl).mono ?_
  rintro e w3 ⟨rfl, n7, rfl⟩
  go_wp2_with fail
  refine (mul_is f a b (Gf.mul a b) _ (HF.out.drewN _) (by first | assumption | exact Gf.mul_lt _ _ | omega) (by first | assumption | exact Gf.mul_lt _ _ | omega) rfl).mono ?_
  rintro e w3 ⟨rfl, n8, rfl⟩
  go_wp2_with fail
  refine (mul_is f a c (Gf.mul a c) _ (HF.out.drewN _) (by first | assumption | exact Gf.mul_lt _ _ | omega) (by first | assumption | exact Gf.mul_lt _ _ | omega) rfl).mono ?_
  rintro e w3 ⟨rfl, n9, rfl⟩
  go_wp2_with fail
  refine (add_is (Gf.mul a b) (Gf.mul a c) (Gf.mul a (b ^^^ c)) (by first | assumption | exact Gf.mul_lt _ _ | omega) (by first | assumption | exact Gf.mul_lt _ _ | omega) (Gf.mul_add a b c ha hb hc).symm _).mono ?_
  rintro e w3 ⟨rfl, rfl⟩
  go_wp2_with fail
  refine (mul_is f a 1 a _ (HF.out.drewN _) (by first | assumption | exact Gf.mul_lt _ _ | omega) (by first | assumption | exact Gf.mul_lt _ _ | omega) (Gf.mul_one a ha)).mono ?_
  rintro e w3 ⟨rfl, n10, rfl⟩
  go_wp2_with fail
  refine (mul_is f a 0 0 _ (HF.out.drewN _) (by first | assumption | exact Gf.mul_lt _ _ | omega) (by first | assumption | exact Gf.mul_lt _ _ | omega) (Gf.mul_zero a)).mono ?_
  rintro e w3 ⟨rfl, n11, rfl⟩
  go_wp2_with fail
  refine (add_is a 0 a (by first | assumption | exact Gf.mul_lt _ _ | omega) (by first | assumption | exact Gf.mul_lt _ _ | omega) (Nat.xor_zero a) _).mono ?_
  rintro e w3 ⟨rfl, rfl⟩
  go_wp2_with fail
  refine (add_is a a 0 (by first | assumption | exact Gf.mul_lt _ _ | omega) (by first | assumption | exact Gf.mul_lt _ _ | omega) (Nat.xor_self a) _).mono ?_
  rintro e w3 ⟨rfl, rfl⟩
  go_wp2_with fail
  refine (add_is a b (a ^^^ b) (by first | assumption | exact Gf.mul_lt _ _ | omega) (by first | assumption | exact Gf.mul_lt _ _ | omega) rfl _).mono ?_
  rintro e w3 ⟨rfl, rfl⟩
  go_wp2_with fail
  refine (add_is b a (a ^^^ b) (by first | assumption | exact Gf.mul_lt _ _ | omega) (by first | assumption | exact Gf.mul_lt _ _ | omega) (Nat.xor_comm b a) _).mono ?_
  rintro e w3 ⟨rfl, rfl⟩
  go_wp2_with fail
  refine (add_is b c (b ^^^ c) (by first | assumption | exact Gf.mul_lt _ _ | omega) (by first | assumption | exact Gf.mul_lt _ _ | omega) rfl _).mono ?_
  rintro e w3 ⟨rfl, rfl⟩
  go_wp2_with fail
  refine (add_is a (b ^^^ c) (a ^^^ (b ^^^ c)) (by first | assumption | exact Gf.mul_lt _ _ | omega) (by first | assumption | exact Gf.mul_lt _ _ | omega) rfl _).mono ?_
  rintro e w3 ⟨rfl, rfl⟩
  go_wp2_with fail
  refine (add_is a b (a ^^^ b) (by first | assumption | exact Gf.mul_lt _ _ | omega) (by first | assumption | exact Gf.mul_lt _ _ | omega) rfl _).mono ?_
  rintro e w3 ⟨rfl, rfl⟩
  go_wp2_with fail
  refine (add_is (a ^^^ b) c (a ^^^ (b ^^^ c)) (by first | assumption | exact Gf.mul_lt _ _ | omega) (by first | assumption | exact Gf.mul_lt _ _ | omega) (Nat.xor_assoc a b c) _).mono ?_
  rintro e w3 ⟨rfl, rfl⟩
  go_wp2_with fail
  go_ret
  exact ⟨rfl, (HB.out.trans HC.out).drewN _⟩
end Go.Proofs.Ytbdhafibmkmmlaa
