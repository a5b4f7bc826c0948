/-
  What the document's own Eval of layer 2 does: the value of a polynomial, power by power. Conditions: no more than 2^20 coefficients.
-/
import Derived.Test.YtagdialceelggaaAppend
import Derived.Test.YtagdialceelggaaRefPow
namespace Go.Proofs.Ytagdialceelggaa
open Go.RowKit
open Pol (co Sm)

def term (l : List Nat) (x : Nat) (i : Nat) : Nat := Gf.mul (co l i) (Gf.pow x i)
theorem term_lt (l : List Nat) (x i : Nat) : term l x i < 256 := Gf.mul_lt _ _

set_option maxHeartbeats 400000 in
set_option maxRecDepth 100000 in
theorem ref_eval (l : List Nat) (x : Nat) (A : Option Addr) (ca : Nat) (w : World) (ha : Rd w A l) (hx : x < 256) (hl : l.length ≤ 1048576) :
    Calls Try.prog 17 #[.slice A l.length ca, .int .u8 (x : Int)] w (Hands (.int .u8 ((Pol.ev l x : Nat) : Int)) w) := by
  have hv := Pol.ev_pow l x ha.1 hx
  generalize hn : l.length = n at hl hv ⊢
  have HA := Lib.hid ha
  have HN := Lib.hid hn
  have HV := Lib.hid hv
  clear ha hn hv
  go_enter Try.func17, Try.ntmps17
  go_wp2
  go_loopg [5, 9] n (fun g s5 s9 wx => ∃ k m : Nat, k + g = n ∧ s5 = .int .u8 ((Pol.xs k (term l x) : Nat) : Int) ∧ s9 = .int .i64 (k : Int) ∧ wx = w.drewN m)
  case atStart => exact ⟨0, 0, by omega, rfl, rfl, rfl⟩
  case round =>
    obtain ⟨k, m, hkg, rfl, rfl, rfl⟩ := hrel
    cases gk with
    | zero =>
      obtain rfl : k = n := by omega
      clear hkg
      go_wp2
      go_ret
      exact ⟨ret_int (by rw [HV.out]; rfl), m, rfl⟩
    | succ g =>
      have hk : k < n := by omega
      obtain ⟨b, o, rfl, hc⟩ := HA.out.2 k (by rw [HN.out]; exact hk)
      have hco := HA.out.1 k
      have hkI : (k : Int) < (n : Int) := by omega
      have hks : k < 18446744073709551616 := by omega
      have hsx := Pol.xs_lt (f := term l x) k (fun i _ => term_lt l x i)
      have hxor := u8_xor_nat (Pol.xs k (term l x)) (term l x k) hsx (term_lt l x k)
      have HX := Lib.hid hxor
      have HK := Lib.hid hks
      have HC := Lib.hid hc
      clear hxor hks hsx hc
      have hc2 : (w.drewN m).cell? ⟨b, o + k, none⟩ = some (.int .u8 ((co l k : Nat) : Int)) := HC.out
      generalize hW : w.drewN m = W at hc2 ⊢
      have HW := Lib.hid hW
      clear hW
      go_wp2
      go_quiet (first | (go_at_call 33; exact quiet_same (ref_pow x k hx HK.out _)) | (go_at_call 32; exact quiet_same (ref_mul (co l k) (Gf.pow x k) hco (Gf.pow_lt _ _) _)))
      go_wp2
      go_roundg g
      case measure => omega
      case rel => exact ⟨k + 1, m + nq, by omega, congrArg (Value.int IntKind.u8) HX.out, by go_num, by rw [← HW.out, World.drewN_drewN]⟩
end Go.Proofs.Ytagdialceelggaa
