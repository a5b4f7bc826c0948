/-
  What the methods of a field do: Mul, Div, Inv, Pow and Log, of a field in memory and of a nil field. Conditions: none beyond the kinds of the arguments.
-/
import Derived.Test.YtbdhafibmkmmlaaBase
namespace Go.Proofs.Ytbdhafibmkmmlaa
open Go.RowKit

theorem mul_nil (x y : Int) (w : World) : Calls Try.prog 19 #[.pointer none, .int .u8 x, .int .u8 y] w (Hands (.int .u8 0) w) := by
  go_enter Try.func19, Try.ntmps19
  go_wp2
  go_ret
  exact ⟨rfl, 0, rfl⟩

set_option maxHeartbeats 400000 in
theorem mul_any (b x y : Nat) (w : World) (hf : IsField w b) (hx : x < 256) (hy : y < 256) :
    Calls Try.prog 19 #[.pointer (some ⟨b, 0, none⟩), .int .u8 (x : Int), .int .u8 (y : Int)] w (Hands (.int .u8 ((Gf.mul x y : Nat) : Int)) w) := by
  by_cases x0 : x = 0
  · subst x0
    rw [Gf.zero_mul]
    clear hf
    go_enter Try.func19, Try.ntmps19
    go_wp2
    go_ret
    exact ⟨rfl, 0, rfl⟩
  by_cases y0 : y = 0
  · subst y0
    rw [Gf.mul_zero]
    have h0 : ((x : Int) == 0) = false := by simpa using x0
    clear hf
    go_enter Try.func19, Try.ntmps19
    go_wp2
    go_ret
    exact ⟨rfl, 0, rfl⟩
  have h0 : ((x : Int) == 0) = false := by simpa using x0
  have h1 : ((y : Int) == 0) = false := by simpa using y0
  have c1 := hf.2 x hx
  have c2 := hf.2 y hy
  have l1 := Gf.lg_lt x
  have l2 := Gf.lg_lt y
  have c3 := hf.1 ((Gf.lg x + Gf.lg y) % 255) (by omega)
  have xI : (x : Int) < 256 := by omega
  have yI : (y : Int) < 256 := by omega
  clear hf
  go_enter Try.func19, Try.ntmps19
  go_wp2
  go_quiet (fail)
  go_wp2
  go_ret
  exact ⟨ret_int (by unfold Gf.mul; rw [if_neg (by omega)]), nq, rfl⟩

/-! ### Quotients -/
theorem div_nil (x y : Int) (w : World) : Calls Try.prog 13 #[.pointer none, .int .u8 x, .int .u8 y] w (Hands (.tuple #[.int .u8 0, .int .i64 1]) w) := by
  go_enter Try.func13, Try.ntmps13
  go_wp2
  go_ret2
  exact ⟨rfl, 0, rfl⟩
theorem div_zero (b : Nat) (x : Int) (w : World) : Calls Try.prog 13 #[.pointer (some ⟨b, 0, none⟩), .int .u8 x, .int .u8 0] w (Hands (.tuple #[.int .u8 0, .int .i64 1]) w) := by
  go_enter Try.func13, Try.ntmps13
  go_wp2
  go_ret2
  exact ⟨rfl, 0, rfl⟩
set_option maxHeartbeats 400000 in
theorem div_any (b x y : Nat) (w : World) (hf : IsField w b) (hx : x < 256) (hy : y < 256) (y0 : y ≠ 0) :
    Calls Try.prog 13 #[.pointer (some ⟨b, 0, none⟩), .int .u8 (x : Int), .int .u8 (y : Int)] w (Hands (.tuple #[.int .u8 ((Gf.quo x y : Nat) : Int), .int .i64 0]) w) := by
  have h1 : ((y : Int) == 0) = false := by simpa using y0
  by_cases x0 : x = 0
  · subst x0
    rw [show Gf.quo 0 y = 0 from rfl]
    clear hf
    go_enter Try.func13, Try.ntmps13
    go_wp2
    go_ret2
    exact ⟨rfl, 0, rfl⟩
  have h0 : ((x : Int) == 0) = false := by simpa using x0
  have c1 := hf.2 x hx
  have c2 := hf.2 y hy
  have l1 := Gf.lg_lt x
  have l2 := Gf.lg_lt y
  have c3 := hf.1 ((Gf.lg x + 255 - Gf.lg y) % 255) (by omega)
  have xI : (x : Int) < 256 := by omega
  have yI : (y : Int) < 256 := by omega
  clear hf
  go_enter Try.func13, Try.ntmps13
  go_wp2
  go_quiet (fail)
  go_wp2
  go_ret2
  exact ⟨ret_two (by unfold Gf.quo; rw [if_neg x0]), nq, rfl⟩

/-! ### Inverses -/
theorem inv_nil (x : Int) (w : World) : Calls Try.prog 12 #[.pointer none, .int .u8 x] w (Hands (.tuple #[.int .u8 0, .int .i64 1]) w) := by
  go_enter Try.func12, Try.ntmps12
  go_wp2_with fail
  refine (div_nil _ _ _).mono ?_
  rintro e w' ⟨rfl, n, rfl⟩
  go_wp2
  go_ret2
  exact ⟨rfl, n, rfl⟩
theorem inv_zero (b : Nat) (w : World) : Calls Try.prog 12 #[.pointer (some ⟨b, 0, none⟩), .int .u8 0] w (Hands (.tuple #[.int .u8 0, .int .i64 1]) w) := by
  go_enter Try.func12, Try.ntmps12
  go_wp2_with fail
  refine (div_zero _ _ _).mono ?_
  rintro e w' ⟨rfl, n, rfl⟩
  go_wp2
  go_ret2
  exact ⟨rfl, n, rfl⟩
theorem inv_any (b y : Nat) (w : World) (hf : IsField w b) (hy : y < 256) (y0 : y ≠ 0) :
    Calls Try.prog 12 #[.pointer (some ⟨b, 0, none⟩), .int .u8 (y : Int)] w (Hands (.tuple #[.int .u8 ((Gf.quo 1 y : Nat) : Int), .int .i64 0]) w) := by
  have hc := div_any b 1 y w hf (by omega) hy y0
  have HC := Lib.hid hc
  clear hc hf
  go_enter Try.func12, Try.ntmps12
  go_wp2_with fail
  refine HC.out.mono ?_
  rintro e w' ⟨rfl, n, rfl⟩
  go_wp2
  go_ret2
  exact ⟨rfl, n, rfl⟩

/-! ### Logarithms -/
theorem log_nil (x : Int) (w : World) : Calls Try.prog 14 #[.pointer none, .int .u8 x] w (Hands (.tuple #[.int .i64 0, .int .i64 1]) w) := by
  go_enter Try.func14, Try.ntmps14
  go_wp2
  go_ret2
  exact ⟨rfl, 0, rfl⟩
theorem log_zero (b : Nat) (w : World) : Calls Try.prog 14 #[.pointer (some ⟨b, 0, none⟩), .int .u8 0] w (Hands (.tuple #[.int .i64 0, .int .i64 1]) w) := by
  go_enter Try.func14, Try.ntmps14
  go_wp2
  go_ret2
  exact ⟨rfl, 0, rfl⟩
theorem log_any (b x : Nat) (w : World) (hf : IsField w b) (hx : x < 256) (x0 : x ≠ 0) :
    Calls Try.prog 14 #[.pointer (some ⟨b, 0, none⟩), .int .u8 (x : Int)] w (Hands (.tuple #[.int .i64 ((Gf.lg x : Nat) : Int), .int .i64 0]) w) := by
  have h0 : ((x : Int) == 0) = false := by simpa using x0
  have c1 := hf.2 x hx
  have l1 := Gf.lg_lt x
  have xI : (x : Int) < 256 := by omega
  clear hf
  go_enter Try.func14, Try.ntmps14
  go_wp2
  go_ret2
  exact ⟨rfl, 0, rfl⟩

/-! ### Powers -/
theorem pow_nil (x n : Int) (w : World) : Calls Try.prog 20 #[.pointer none, .int .u8 x, .int .u64 n] w (Hands (.int .u8 0) w) := by
  go_enter Try.func20, Try.ntmps20
  go_wp2
  go_ret
  exact ⟨rfl, 0, rfl⟩
set_option maxHeartbeats 400000 in
theorem pow_any (b x n : Nat) (w : World) (hf : IsField w b) (hx : x < 256) :
    Calls Try.prog 20 #[.pointer (some ⟨b, 0, none⟩), .int .u8 (x : Int), .int .u64 (n : Int)] w (Hands (.int .u8 ((Gf.pow x n : Nat) : Int)) w) := by
  by_cases n0 : n = 0
  · subst n0
    rw [Gf.pow_zero]
    clear hf
    go_enter Try.func20, Try.ntmps20
    go_wp2
    go_ret
    exact ⟨rfl, 0, rfl⟩
  have h1 : ((n : Int) == 0) = false := by simpa using n0
  by_cases x0 : x = 0
  · subst x0
    rw [Gf.zero_pow n n0]
    clear hf
    go_enter Try.func20, Try.ntmps20
    go_wp2
    go_ret
    exact ⟨rfl, 0, rfl⟩
  have h0 : ((x : Int) == 0) = false := by simpa using x0
  have c1 := hf.2 x hx
  have l1 := Gf.lg_lt x
  have c3 := hf.1 ((Gf.lg x * (n % 255)) % 255) (by omega)
  have hv : Gf.pow x n = Gf.pw ((Gf.lg x * (n % 255)) % 255) := by unfold Gf.pow; rw [if_neg n0, if_neg x0]
  have hm : n % 255 < 255 := Nat.mod_lt _ (by omega)
  have hp : Gf.lg x * (n % 255) ≤ 254 * 254 := Nat.mul_le_mul (by omega) (by omega)
  have hq : Gf.lg x * (n % 255) % 255 < 255 := Nat.mod_lt _ (by omega)
  have xI : (x : Int) < 256 := by omega
  have e1 : IntKind.u64.wrap ((Gf.lg x : Nat) : Int) = ((Gf.lg x : Nat) : Int) := IntWalk.u64_in _ (by omega)
  have e2 : (n : Int).tmod 255 = ((n % 255 : Nat) : Int) := by rw [Int.tmod_eq_emod_of_nonneg (by omega)]; omega
  have e3 : IntKind.u64.wrap (((Gf.lg x : Nat) : Int) * ((n % 255 : Nat) : Int)) = ((Gf.lg x * (n % 255) : Nat) : Int) := by
    rw [← Int.natCast_mul]; exact IntWalk.u64_in _ (by omega)
  have e4 : ((Gf.lg x * (n % 255) : Nat) : Int).tmod 255 = ((Gf.lg x * (n % 255) % 255 : Nat) : Int) := by
    rw [Int.tmod_eq_emod_of_nonneg (by omega)]; omega
  generalize Gf.lg x * (n % 255) % 255 = q at *
  generalize Gf.lg x * (n % 255) = p at *
  generalize n % 255 = m at *
  generalize Gf.lg x = l at *
  have HV := Lib.hid hv
  clear hv hf hp
  go_enter Try.func20, Try.ntmps20
  go_wp2
  go_quiet (fail)
  go_wp2
  go_ret
  exact ⟨ret_int (by rw [HV.out]), nq, rfl⟩
end Go.Proofs.Ytbdhafibmkmmlaa
