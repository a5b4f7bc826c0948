/-
  The contracts of Add, Mul, Div, Inv, Pow and Log once more, the answer under a name of its own; and a law's first two calls. Conditions: none beyond the kinds of the arguments.
-/
import Derived.Test.YtbdhafibmkmmlaaAwake
import Derived.OpenShut
namespace Go.Proofs.Ytbdhafibmkmmlaa
open Go.RowKit

/-- The law answers true; nothing that was there has changed. -/
def Holds (w : World) (e : Ending) (w' : World) : Prop := e = .returned (.bool true) ∧ Ext w w'

theorem nat_u8 {n : Int} (h : (Lit.int .u8 n).wf = true) : ∃ x : Nat, n = (x : Int) ∧ x < 256 := by
  have := bounds_u8 h
  exact ⟨n.toNat, by omega, by omega⟩
theorem nat_u32 {n : Int} (h : (Lit.int .u32 n).wf = true) : ∃ x : Nat, n = (x : Int) ∧ x < 4294967296 := by
  have := bounds_u32 h
  exact ⟨n.toNat, by omega, by omega⟩
theorem nat_u64 {n : Int} (h : (Lit.int .u64 n).wf = true) : ∃ x : Nat, n = (x : Int) ∧ x < 18446744073709551616 := by
  have := bounds_u64 h
  exact ⟨n.toNat, by omega, by omega⟩

theorem add_is (a b v : Nat) (ha : a < 256) (hb : b < 256) (h : a ^^^ b = v) (w : World) :
    Calls Try.prog 18 #[.int .u8 (a : Int), .int .u8 (b : Int)] w fun e w' => e = .returned (.int .u8 (v : Int)) ∧ w = w' := by
  have := add_any a b w
  rw [u8_xor_nat a b ha hb, h] at this
  exact this
theorem mul_is (b x y v : Nat) (w : World) (hf : IsField w b) (hx : x < 256) (hy : y < 256) (h : Gf.mul x y = v) :
    Calls Try.prog 19 #[.pointer (some ⟨b, 0, none⟩), .int .u8 (x : Int), .int .u8 (y : Int)] w (Hands (.int .u8 (v : Int)) w) := h ▸ mul_any b x y w hf hx hy
theorem div_is (b x y v : Nat) (w : World) (hf : IsField w b) (hx : x < 256) (hy : y < 256) (y0 : y ≠ 0) (h : Gf.quo x y = v) :
    Calls Try.prog 13 #[.pointer (some ⟨b, 0, none⟩), .int .u8 (x : Int), .int .u8 (y : Int)] w (Hands (.tuple #[.int .u8 (v : Int), .int .i64 0]) w) := h ▸ div_any b x y w hf hx hy y0
theorem inv_is (b y v : Nat) (w : World) (hf : IsField w b) (hy : y < 256) (y0 : y ≠ 0) (h : Gf.quo 1 y = v) :
    Calls Try.prog 12 #[.pointer (some ⟨b, 0, none⟩), .int .u8 (y : Int)] w (Hands (.tuple #[.int .u8 (v : Int), .int .i64 0]) w) := h ▸ inv_any b y w hf hy y0
theorem pow_is (b x n v : Nat) (w : World) (hf : IsField w b) (hx : x < 256) (h : Gf.pow x n = v) :
    Calls Try.prog 20 #[.pointer (some ⟨b, 0, none⟩), .int .u8 (x : Int), .int .u64 (n : Int)] w (Hands (.int .u8 (v : Int)) w) := h ▸ pow_any b x n w hf hx
theorem pow_at (b x n v : Nat) (N : Int) (w : World) (hf : IsField w b) (hx : x < 256) (hN : N = (n : Int)) (h : Gf.pow x n = v) :
    Calls Try.prog 20 #[.pointer (some ⟨b, 0, none⟩), .int .u8 (x : Int), .int .u64 N] w (Hands (.int .u8 (v : Int)) w) := by
  subst hN
  exact pow_is b x n v w hf hx h
theorem log_is (b x v : Nat) (w : World) (hf : IsField w b) (hx : x < 256) (x0 : x ≠ 0) (h : Gf.lg x = v) :
    Calls Try.prog 14 #[.pointer (some ⟨b, 0, none⟩), .int .u8 (x : Int)] w (Hands (.tuple #[.int .i64 (v : Int), .int .i64 0]) w) := h ▸ log_any b x w hf hx x0
end Go.Proofs.Ytbdhafibmkmmlaa
