/-
  The document's own answer for layer 1, as the statements hold it: the power by squares. Conditions: none beyond the kinds of the arguments.
-/
import Derived.Test.YtagdialceelggaaRefMul
namespace Go.Proofs.Ytagdialceelggaa
open Go.RowKit

theorem half_u64 (q : Nat) (h : q < 18446744073709551616) : IntKind.u64.wrap ((q : Int) / 2) = ((q / 2 : Nat) : Int) := by
  rw [IntWalk.u64_in _ (by omega)]; omega

def PowAt (a n : Nat) (x m o : Value) : Prop := ∃ p q r : Nat, p < 256 ∧ r < 256 ∧ q < 18446744073709551616 ∧ x = .int .u8 (p : Int) ∧ m = .int .u64 (q : Int) ∧ o = .int .u8 (r : Int) ∧ Gf.mul r (Gf.pow p q) = Gf.pow a n

set_option maxHeartbeats 400000 in
set_option maxRecDepth 100000 in
theorem ref_pow (a n : Nat) (ha : a < 256) (hn : n < 18446744073709551616) (w : World) :
    Calls Try.prog 33 #[.int .u8 (a : Int), .int .u64 (n : Int)] w fun e w' => e = .returned (.int .u8 ((Gf.pow a n : Nat) : Int)) ∧ w = w' := by
  have HN := Lib.hid hn
  clear hn
  go_enter Try.func33, Try.ntmps33
  go_wp2
  go_loop [0, 1, 5] (fun x m o => PowAt a n x m o) (fun _ m _ => (intOf m).toNat)
  case atStart => exact ⟨a, n, 1, ha, by omega, HN.out, rfl, rfl, rfl, Gf.one_mul _ (Gf.pow_lt _ _)⟩
  case round =>
    obtain ⟨p, q, r, hp, hr, hql, rfl, rfl, rfl, hinv⟩ := hrel
    have HI := Lib.hid hinv
    have hw := half_u64 q hql
    have HW := Lib.hid hw
    have HL := Lib.hid hql
    clear hinv hw hql
    by_cases q0 : q = 0
    · subst q0
      go_wp2
      go_ret
      exact ⟨ret_int (by rw [← HI.out, Gf.pow_zero, Gf.mul_one r hr]), rfl⟩
    · have hs := Gf.pow_step r p q hr hp
      have HS := Lib.hid hs
      clear hs
      have hq0 : (0 : Int) < (q : Int) := by omega
      by_cases hodd : q % 2 = 1
      · have ho : ((q : Int) % 2 == 1) = true := beq_iff_eq.2 (by omega)
        have HO := Lib.hid hodd
        clear hodd
        go_wp2_with fail
        refine (ref_mul r p hr hp _).mono ?_
        rintro e w' ⟨rfl, rfl⟩
        go_wp2_with fail
        refine (ref_mul p p hp hp _).mono ?_
        rintro e w' ⟨rfl, rfl⟩
        go_wp2_with fail
        go_round
        case rel => exact ⟨Gf.mul p p, q / 2, Gf.mul r p, Gf.mul_lt _ _, Gf.mul_lt _ _, by have := HL.out; omega, rfl, congrArg (Value.int IntKind.u64) HW.out, rfl, by rw [← HI.out, HS.out, if_pos HO.out]⟩
        case measure => simp only [intOf]; rw [HW.out]; omega
      · have ho : ((q : Int) % 2 == 1) = false := beq_eq_false_iff_ne.2 (by omega)
        have HO := Lib.hid hodd
        clear hodd
        go_wp2_with fail
        refine (ref_mul p p hp hp _).mono ?_
        rintro e w' ⟨rfl, rfl⟩
        go_wp2_with fail
        go_round
        case rel => exact ⟨Gf.mul p p, q / 2, r, Gf.mul_lt _ _, hr, by have := HL.out; omega, rfl, congrArg (Value.int IntKind.u64) HW.out, rfl, by rw [← HI.out, HS.out, if_neg HO.out]⟩
        case measure => simp only [intOf]; rw [HW.out]; omega

end Go.Proofs.Ytagdialceelggaa
