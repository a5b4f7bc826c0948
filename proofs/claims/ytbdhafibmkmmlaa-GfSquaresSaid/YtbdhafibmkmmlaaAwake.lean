/-
  The statements' own first call, 'awake', answers true and leaves all memory that was there as it was. Conditions: none.
-/
import Derived.Test.YtbdhafibmkmmlaaField
namespace Go.Proofs.Ytbdhafibmkmmlaa
open Go.RowKit

theorem q_two : Gf.quo 1 2 = 141 := by decide +kernel
theorem m_doc : Gf.mul 87 131 = 193 := by decide +kernel

theorem inv_two (b : Nat) (w : World) (hf : IsField w b) : Calls Try.prog 12 #[.pointer (some ⟨b, 0, none⟩), .int .u8 2] w (Hands (.tuple #[.int .u8 141, .int .i64 0]) w) := by
  have h := inv_any b 2 w hf (by omega) (by omega)
  rw [q_two] at h
  exact h
theorem mul_doc (b : Nat) (w : World) (hf : IsField w b) : Calls Try.prog 19 #[.pointer (some ⟨b, 0, none⟩), .int .u8 87, .int .u8 131] w (Hands (.int .u8 193) w) := by
  have h := mul_any b 87 131 w hf (by omega) (by omega)
  rw [m_doc] at h
  exact h
theorem add_doc (w : World) : Calls Try.prog 18 #[.int .u8 5, .int .u8 3] w fun e w' => e = .returned (.int .u8 6) ∧ w = w' := by
  have h := add_any 5 3 w
  rw [show bits .xor .u8 5 3 = 6 from by decide +kernel] at h
  exact h

def Wakes (w : World) (e : Ending) (w' : World) : Prop := e = .returned (.bool true) ∧ Ext w w'

set_option maxHeartbeats 400000 in
theorem awake_any (w : World) : Calls Try.prog 10 #[] w (Wakes w) := by
  go_enter Try.func10, Try.ntmps10
  go_wp2_with fail
  refine (new_any _).mono ?_
  rintro e w1 ⟨b, rfl, hf, _, hb⟩
  have HB := Lib.hid hb
  have HF := Lib.hid hf
  clear hb hf
  go_wp2_with fail
  refine (inv_two b _ HF.out).mono ?_
  rintro e w2 ⟨rfl, n, rfl⟩
  go_wp2_with fail
  refine (mul_doc b _ (HF.out.drewN _)).mono ?_
  rintro e w2 ⟨rfl, m, rfl⟩
  go_wp2_with fail
  refine (add_doc _).mono ?_
  rintro e w2 ⟨rfl, rfl⟩
  go_wp2_with fail
  go_ret
  exact ⟨rfl, HB.out.drewN _⟩
end Go.Proofs.Ytbdhafibmkmmlaa
