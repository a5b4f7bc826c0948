/-
  What Mul of a field does, of a field in memory and of a nil field. Conditions: none beyond the kinds of the arguments.
-/
import Derived.Test.YtlncelfacfflhaaBase
namespace Go.Proofs.Ytlncelfacfflhaa
open Go.RowKit

theorem mul_nil (x y : Int) (w : World) : Calls Try.prog 21 #[.pointer none, .int .u8 x, .int .u8 y] w (Hands (.int .u8 0) w) := by
  go_enter Try.func21, Try.ntmps21
  go_wp2
  go_ret
  exact ⟨rfl, 0, rfl⟩

set_option maxHeartbeats 400000 in
theorem mul_any (b x y : Nat) (w : World) (hf : IsField w b) (hx : x < 256) (hy : y < 256) :
    Calls Try.prog 21 #[.pointer (some ⟨b, 0, none⟩), .int .u8 (x : Int), .int .u8 (y : Int)] w (Hands (.int .u8 ((Gf.mul x y : Nat) : Int)) w) := by
  by_cases x0 : x = 0
  · subst x0
    rw [Gf.zero_mul]
    clear hf
    go_enter Try.func21, Try.ntmps21
    go_wp2
    go_ret
    exact ⟨rfl, 0, rfl⟩
  by_cases y0 : y = 0
  · subst y0
    rw [Gf.mul_zero]
    have h0 : ((x : Int) == 0) = false := by simpa using x0
    clear hf
    go_enter Try.func21, Try.ntmps21
    go_wp2
    go_ret
    exact ⟨rfl, 0, rfl⟩
  have h0 : ((x : Int) == 0) = false := by simpa using x0
  have h1 : ((y : Int) == 0) = false := by simpa using y0
  have c1 := hf.2 x hx
  have c2 := hf.2 y hy
  have l1 := Gf.lg_lt x
  have l2 := Gf.lg_lt y
  have c3 := hf.1 ((Gf.lg x + Gf.lg y) % 255) (by omega)
  have xI : (x : Int) < 256 := by omega
  have yI : (y : Int) < 256 := by omega
  clear hf
  go_enter Try.func21, Try.ntmps21
  go_wp2
  go_quiet (fail)
  go_wp2
  go_ret
  exact ⟨ret_int (by unfold Gf.mul; rw [if_neg (by omega)]), nq, rfl⟩

theorem mul_is (b x y v : Nat) (w : World) (hf : IsField w b) (hx : x < 256) (hy : y < 256) (h : Gf.mul x y = v) :
    Calls Try.prog 21 #[.pointer (some ⟨b, 0, none⟩), .int .u8 (x : Int), .int .u8 (y : Int)] w (Hands (.int .u8 (v : Int)) w) := h ▸ mul_any b x y w hf hx hy
end Go.Proofs.Ytlncelfacfflhaa
