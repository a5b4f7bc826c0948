/-
  What Div and Inv of a field do, of a field in memory and of a nil field. Conditions: none beyond the kinds of the arguments.
-/
import Derived.Test.YtlncelfacfflhaaBase
namespace Go.Proofs.Ytlncelfacfflhaa
open Go.RowKit

theorem div_nil (x y : Int) (w : World) : Calls Try.prog 34 #[.pointer none, .int .u8 x, .int .u8 y] w (Hands (.tuple #[.int .u8 0, .int .i64 1]) w) := by
  go_enter Try.func34, Try.ntmps34
  go_wp2
  go_ret2
  exact ⟨rfl, 0, rfl⟩
theorem div_zero (b : Nat) (x : Int) (w : World) : Calls Try.prog 34 #[.pointer (some ⟨b, 0, none⟩), .int .u8 x, .int .u8 0] w (Hands (.tuple #[.int .u8 0, .int .i64 1]) w) := by
  go_enter Try.func34, Try.ntmps34
  go_wp2
  go_ret2
  exact ⟨rfl, 0, rfl⟩
set_option maxHeartbeats 400000 in
theorem div_any (b x y : Nat) (w : World) (hf : IsField w b) (hx : x < 256) (hy : y < 256) (y0 : y ≠ 0) :
    Calls Try.prog 34 #[.pointer (some ⟨b, 0, none⟩), .int .u8 (x : Int), .int .u8 (y : Int)] w (Hands (.tuple #[.int .u8 ((Gf.quo x y : Nat) : Int), .int .i64 0]) w) := by
  have h1 : ((y : Int) == 0) = false := by simpa using y0
  by_cases x0 : x = 0
  · subst x0
    rw [show Gf.quo 0 y = 0 from rfl]
    clear hf
    go_enter Try.func34, Try.ntmps34
    go_wp2
    go_ret2
    exact ⟨rfl, 0, rfl⟩
  have h0 : ((x : Int) == 0) = false := by simpa using x0
  have c1 := hf.2 x hx
  have c2 := hf.2 y hy
  have l1 := Gf.lg_lt x
  have l2 := Gf.lg_lt y
  have c3 := hf.1 ((Gf.lg x + 255 - Gf.lg y) % 255) (by omega)
  have xI : (x : Int) < 256 := by omega
  have yI : (y : Int) < 256 := by omega
  clear hf
  go_enter Try.func34, Try.ntmps34
  go_wp2
  go_quiet (fail)
  go_wp2
  go_ret2
  exact ⟨ret_two (by unfold Gf.quo; rw [if_neg x0]), nq, rfl⟩

/-! ### Inverses -/
theorem inv_nil (x : Int) (w : World) : Calls Try.prog 32 #[.pointer none, .int .u8 x] w (Hands (.tuple #[.int .u8 0, .int .i64 1]) w) := by
  go_enter Try.func32, Try.ntmps32
  go_wp2_with fail
  refine (div_nil _ _ _).mono ?_
  rintro e w' ⟨rfl, n, rfl⟩
  go_wp2
  go_ret2
  exact ⟨rfl, n, rfl⟩
theorem inv_zero (b : Nat) (w : World) : Calls Try.prog 32 #[.pointer (some ⟨b, 0, none⟩), .int .u8 0] w (Hands (.tuple #[.int .u8 0, .int .i64 1]) w) := by
  go_enter Try.func32, Try.ntmps32
  go_wp2_with fail
  refine (div_zero _ _ _).mono ?_
  rintro e w' ⟨rfl, n, rfl⟩
  go_wp2
  go_ret2
  exact ⟨rfl, n, rfl⟩
theorem inv_any (b y : Nat) (w : World) (hf : IsField w b) (hy : y < 256) (y0 : y ≠ 0) :
    Calls Try.prog 32 #[.pointer (some ⟨b, 0, none⟩), .int .u8 (y : Int)] w (Hands (.tuple #[.int .u8 ((Gf.quo 1 y : Nat) : Int), .int .i64 0]) w) := by
  have hc := div_any b 1 y w hf (by omega) hy y0
  have HC := Lib.hid hc
  clear hc hf
  go_enter Try.func32, Try.ntmps32
  go_wp2_with fail
  refine HC.out.mono ?_
  rintro e w' ⟨rfl, n, rfl⟩
  go_wp2
  go_ret2
  exact ⟨rfl, n, rfl⟩

theorem div_is (b x y v : Nat) (w : World) (hf : IsField w b) (hx : x < 256) (hy : y < 256) (y0 : y ≠ 0) (h : Gf.quo x y = v) :
    Calls Try.prog 34 #[.pointer (some ⟨b, 0, none⟩), .int .u8 (x : Int), .int .u8 (y : Int)] w (Hands (.tuple #[.int .u8 (v : Int), .int .i64 0]) w) := h ▸ div_any b x y w hf hx hy y0
theorem inv_is (b y v : Nat) (w : World) (hf : IsField w b) (hy : y < 256) (y0 : y ≠ 0) (h : Gf.quo 1 y = v) :
    Calls Try.prog 32 #[.pointer (some ⟨b, 0, none⟩), .int .u8 (y : Int)] w (Hands (.tuple #[.int .u8 (v : Int), .int .i64 0]) w) := h ▸ inv_any b y w hf hy y0
end Go.Proofs.Ytlncelfacfflhaa
