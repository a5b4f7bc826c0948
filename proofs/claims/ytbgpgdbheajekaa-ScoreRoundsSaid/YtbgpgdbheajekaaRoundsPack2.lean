/-
  Part 2 of the texts that the seat's proofs stand on; each part of it begins with its own sentence and conditions. Conditions: those that each theorem names.
-/
import Derived.Test.YtbgpgdbheajekaaRoundsPack1
import Derived.Maps.AppendAt
import Derived.BigRegion
import Derived.BigQuiet

/-
  The document's answers of layer 15: Rate, Round. Conditions: none.
-/
namespace Go.Proofs.Ytbgpgdbheajekaa
open Go.RowKit
open Fl (K v rung sgn IsNan RndOk rnd sg rq S U)

theorem run_quo_none {P : Program} (w : World) (t : TypeId) (x y : Nat) (h : floatBits .quo .f64 x y = none) : (binOp .quo t (.float .f64 x) (.float .f64 y)).run P w = .ok (.float .f64 ((Question.nanBits .f64 x y).cut (w.tape w.drawn (.nanBits .f64 x y)))) w.drew := by
  have h' : FloatKind.f64.format.div x y = none := h
  simp [binOp, Op.floatArith, h', Question.forced]
theorem cut_nan (x y t : Nat) : IsNan ((Question.nanBits .f64 x y).cut t) ∧ (Question.nanBits .f64 x y).cut t < 18446744073709551616 := by
  have e : (Question.nanBits .f64 x y).cut t = (t % 2) * 9223372036854775808 + 9218868437227405312 + 1 + (t / 2) % 4503599627370495 := rfl
  have h1 : t % 2 < 2 := Nat.mod_lt _ (by omega)
  have h2 : (t / 2) % 4503599627370495 < 4503599627370495 := Nat.mod_lt _ (by omega)
  unfold Fl.IsNan Fl.rung
  rw [e]
  generalize t % 2 = a at *
  generalize (t / 2) % 4503599627370495 = b at *
  have h3 : a = 0 ∨ a = 1 := by omega
  rcases h3 with rfl | rfl
  · exact ⟨by omega, by omega⟩
  · exact ⟨by omega, by omega⟩
/-- Odd and even, of either sign. -/
theorem tmod_two (q : Nat) : Int.tmod (q : Int) 2 = ((q % 2 : Nat) : Int) ∧ Int.tmod (-(q : Int)) 2 = -((q % 2 : Nat) : Int) := by
  have h : Int.tmod (q : Int) 2 = ((q % 2 : Nat) : Int) := rfl
  exact ⟨h, by rw [Int.neg_tmod, h]⟩
/-- A quotient, whatever it is. -/
theorem quo_any (x y : Nat) : ∃ f : World → Nat, ∃ n : Nat, (∀ (P : Program) (w : World) (t : TypeId), (binOp .quo t (.float .f64 x) (.float .f64 y)).run P w = .ok (.float .f64 (f w)) (w.drewN n)) ∧ ∀ w, f w < 18446744073709551616 ∧ K (f w) = match floatBits .quo .f64 x y with | some q => K q | none => 9218868437227405313 := by
  cases h : floatBits .quo .f64 x y with
  | none => exact ⟨fun w => (Question.nanBits .f64 x y).cut (w.tape w.drawn (.nanBits .f64 x y)), 1, fun P w t => run_quo_none w t x y h, fun w => ⟨(cut_nan x y _).2, Fl.K_nan.1 (cut_nan x y _).1⟩⟩
  | some q => exact ⟨fun _ => q, 0, fun P w t => run_float_arith (P := P) w .quo t .f64 x y q h, fun _ => ⟨by have := floatBits_wf h; simpa [Lit.wf] using this, rfl⟩⟩
/-- A call of Rate. -/
def RateR (fee : Nat) (n : Int) (w : World) (e : Ending) (w' : World) : Prop := ∃ r m, e = .returned (.float .f64 r) ∧ r < 18446744073709551616 ∧ Fl.IsRate fee n r ∧ w' = w.drewN m
theorem ref15_rate (fee : Nat) (n : Int) (w : World) : Calls Try.prog 17 #[.int .u64 (fee : Int), .int .i64 n] w (RateR fee n w) := by
  have c1 := fun W n => run_convert_int_float (P := Try.prog) W 23 22 .u64 .f64 n (by kernel_rfl) Try.underlying22
  have c2 := fun W n => run_convert_int_float (P := Try.prog) W 3 22 .i64 .f64 n (by kernel_rfl) Try.underlying22
  obtain ⟨f, m, h1, h2⟩ := quo_any (floatOfInt .f64 (fee : Int)) (floatOfInt .f64 n)
  have h1' := h1 Try.prog
  have H2 := Lib.hid (show ∀ w, f w < 18446744073709551616 ∧ Fl.IsRate fee n (f w) from h2)
  clear h1 h2
  go_enter Try.func17, Try.ntmps17
  go_wp2
  go_ret
  exact ⟨_, m, rfl, (H2.out _).1, (H2.out _).2, rfl⟩
theorem c53 : rung 4845873199050653696 = 4845873199050653696 ∧ v 4845873199050653696 = ((9007199254740992 * U : Nat) : Int) ∧ ¬ IsNan 4845873199050653696 := by
  have h : rung 4845873199050653696 = 4845873199050653696 := by unfold Fl.rung; omega
  refine ⟨h, ?_, Fl.nan_fin (by rw [h]; omega)⟩
  unfold Fl.v
  rw [h, Fl.S_53, show sgn 4845873199050653696 = false by unfold Fl.sgn; rw [show 4845873199050653696 / 9223372036854775808 = 0 by omega]; rfl]
  rfl
theorem n53 : v 14069245235905429504 = -((9007199254740992 * U : Nat) : Int) ∧ ¬ IsNan 14069245235905429504 := by
  have h : rung 14069245235905429504 = 4845873199050653696 := by unfold Fl.rung; omega
  refine ⟨?_, Fl.nan_fin (by rw [h]; omega)⟩
  unfold Fl.v
  rw [h, Fl.S_53, show sgn 14069245235905429504 = true by unfold Fl.sgn; rw [show 14069245235905429504 / 9223372036854775808 = 1 by omega]; rfl]
  rfl
theorem chalf : 2 * v 4602678819172646912 = (U : Int) ∧ ¬ IsNan 4602678819172646912 := by
  have h : rung 4602678819172646912 = 4602678819172646912 := by unfold Fl.rung; omega
  refine ⟨?_, Fl.nan_fin (by rw [h]; omega)⟩
  have hh := Fl.S_half
  unfold Fl.v
  rw [h, show sgn 4602678819172646912 = false by unfold Fl.sgn; rw [show 4602678819172646912 / 9223372036854775808 = 0 by omega]; rfl]
  show 2 * ((S 4602678819172646912 : Nat) : Int) = _
  generalize S 4602678819172646912 = z at *
  omega
theorem nhalf : 2 * v 13826050856027422720 = -(U : Int) ∧ ¬ IsNan 13826050856027422720 := by
  have h : rung 13826050856027422720 = 4602678819172646912 := by unfold Fl.rung; omega
  refine ⟨?_, Fl.nan_fin (by rw [h]; omega)⟩
  have hh := Fl.S_half
  unfold Fl.v
  rw [h, show sgn 13826050856027422720 = true by unfold Fl.sgn; rw [show 13826050856027422720 / 9223372036854775808 = 1 by omega]; rfl]
  show 2 * -((S 4602678819172646912 : Nat) : Int) = _
  generalize S 4602678819172646912 = z at *
  omega
/-- Up to 2^53: by the order's tests. -/
theorem ok_lt {x : Nat} : RndOk x ↔ ¬ v 4845873199050653696 < v x ∧ ¬ v x < v 14069245235905429504 := by
  rw [c53.2.1, n53.1, ← Fl.S_53]
  have h1 := Fl.S_lt (a := 4845873199050653696) (b := rung x)
  unfold Fl.RndOk Fl.v
  split <;> omega
theorem run_neg_float {P : Program} (w : World) (k : FloatKind) (b : Nat) : (Op.unary .neg (.float k b)).run P w = .ok (.float k (Op.negFloat k b)) w := by simp [Op.unary]
theorem neg53 : Op.negFloat .f64 4845873199050653696 = 14069245235905429504 := by decide +kernel
/-- What is left of a number by its whole part. -/
theorem trunc_left {x : Nat} (h : RndOk x) : ∃ q t d : Nat, q = S (rung x) / U ∧ t = S (rung x) % U ∧ q ≤ 9007199254740992 ∧ (t ≠ 0 → q < 9007199254740992) ∧ floatToIntVal .f64 x .i64 = some (sg x q) ∧ floatBits .sub .f64 x (floatOfInt .f64 (sg x q)) = some d ∧ ¬ IsNan d ∧ v d = sg x t := by
  have hb := Fl.div_bound h.le
  obtain ⟨d, h1, h2, h3, _⟩ := Fl.left_is h (.inl rfl)
  refine ⟨_, _, d, rfl, rfl, hb.1, fun h0 => hb.2 h0, Fl.trunc_is h.le h.fin, h1, h3, ?_⟩
  rw [h2, Fl.sg_v]
  have hd := Nat.div_add_mod (S (rung x)) U
  rw [Nat.mul_comm] at hd
  unfold Fl.sg
  generalize S (rung x) % U = t at *
  split
  · rw [Int.neg_mul, ← Int.natCast_mul]; omega
  · rw [← Int.natCast_mul]; omega
/-- A call of Round. -/
def RoundV (x : Nat) : Value := .tuple #[.int .i64 (rnd x), .bool (decide (RndOk x))]
set_option maxHeartbeats 1600000 in
theorem ref15_round (x : Nat) (w : World) : Calls Try.prog 11 #[.float .f64 x] w (Hands (RoundV x) w) := by
  have HA := Lib.hid (ref15_nan x)
  have eN : ∀ W, (Op.unary .neg (.float .f64 4845873199050653696)).run Try.prog W = .ok (.float .f64 14069245235905429504) W := fun W => by rw [run_neg_float, neg53]
  have c1 := fun W n => run_convert_int_float (P := Try.prog) W 3 22 .i64 .f64 n (by kernel_rfl) Try.underlying22
  unfold RoundV
  by_cases hk : RndOk x
  · rw [decide_eq_true hk, Fl.rnd_ok hk]
    have hn := Fl.nan_fin hk.fin
    rw [decide_eq_false hn] at HA
    have g1 : (FloatKind.f64.format.order x 4845873199050653696 == some Ordering.gt) = false := by rw [Fl.gt_is]; exact decide_eq_false (fun h => (ok_lt.1 hk).1 h.2.2)
    have g2 : (FloatKind.f64.format.order x 14069245235905429504 == some Ordering.lt) = false := by rw [Fl.lt_is]; exact decide_eq_false (fun h => (ok_lt.1 hk).2 h.2.2)
    obtain ⟨q, t, d, hq, ht, hq1, hq2, ht1, hd, hd1, hd2⟩ := trunc_left hk
    have c2 := fun W => run_convert_float_int (P := Try.prog) W 22 3 .f64 .i64 x _ (by kernel_rfl) Try.underlying3 ht1
    have hs := fun W t => run_float_arith (P := Try.prog) W .sub t .f64 _ _ _ hd
    have hr : rq (S (rung x)) = if 2 * t < U ∨ (2 * t = U ∧ q % 2 = 0) then q else q + 1 := by rw [ht, hq]; rfl
    have ch := chalf
    have nh := nhalf
    have f1 := Fl.gt_is d 4602678819172646912
    have f2 := Fl.eq_is d 4602678819172646912
    have f3 := Fl.lt_is d 13826050856027422720
    have f4 := Fl.eq_is d 13826050856027422720
    rw [hd2] at f1 f2 f3 f4
    have hU := Fl.U_pos
    unfold Fl.sg at *
    clear hq ht ht1 hd hk
    have hsp : (2 * t < U ∧ 0 ≤ q) ∨ (2 * t = U ∧ q % 2 = 0) ∨ (2 * t = U ∧ q % 2 = 1) ∨ (U < 2 * t ∧ 0 ≤ q) := by omega
    generalize sgn x = s at *
    cases s <;> simp only [Bool.false_eq_true, if_false, if_true] at *
    · rcases hsp with ⟨p1, p2⟩ | ⟨p1, p2⟩ | ⟨p1, p2⟩ | ⟨p1, p2⟩
      · have e1 : decide (¬ IsNan d ∧ ¬ IsNan 4602678819172646912 ∧ v 4602678819172646912 < (t : Int)) = false := decide_eq_false (fun h => by have := h.2.2; omega)
        rw [e1] at f1
        clear e1
        have e2 : decide (¬ IsNan d ∧ ¬ IsNan 4602678819172646912 ∧ (t : Int) = v 4602678819172646912) = false := decide_eq_false (fun h => by have := h.2.2; omega)
        rw [e2] at f2
        clear e2
        have e3 : decide (¬ IsNan d ∧ ¬ IsNan 13826050856027422720 ∧ (t : Int) < v 13826050856027422720) = false := decide_eq_false (fun h => by have := h.2.2; omega)
        rw [e3] at f3
        clear e3
        have e4 : decide (¬ IsNan d ∧ ¬ IsNan 13826050856027422720 ∧ (t : Int) = v 13826050856027422720) = false := decide_eq_false (fun h => by have := h.2.2; omega)
        rw [e4] at f4
        clear e4
        rw [hr, if_pos (by omega)]
        clear hr hd1 hd2 ch nh p2
        have hb : q ≤ 9007199254740992 := hq1
        clear hq1 hq2 p1 hU
        go_enter Try.func11, Try.ntmps11
        go_wp2_with fail
        refine (HA.out _).mono ?_
        rintro e w1 ⟨rfl, n1, rfl⟩
        go_wp2
        go_ret2
        exact ⟨rfl, _, rfl⟩
      · have e1 : decide (¬ IsNan d ∧ ¬ IsNan 4602678819172646912 ∧ v 4602678819172646912 < (t : Int)) = false := decide_eq_false (fun h => by have := h.2.2; omega)
        rw [e1] at f1
        clear e1
        have e2 : decide (¬ IsNan d ∧ ¬ IsNan 4602678819172646912 ∧ (t : Int) = v 4602678819172646912) = true := decide_eq_true ⟨hd1, ch.2, by omega⟩
        rw [e2] at f2
        clear e2
        have e3 : decide (¬ IsNan d ∧ ¬ IsNan 13826050856027422720 ∧ (t : Int) < v 13826050856027422720) = false := decide_eq_false (fun h => by have := h.2.2; omega)
        rw [e3] at f3
        clear e3
        have e4 : decide (¬ IsNan d ∧ ¬ IsNan 13826050856027422720 ∧ (t : Int) = v 13826050856027422720) = false := decide_eq_false (fun h => by have := h.2.2; omega)
        rw [e4] at f4
        clear e4
        rw [hr, if_pos (by omega)]
        have m1 : (Int.tmod (q : Int) 2 == 0) = true := by
          rw [(tmod_two q).1, p2]; rfl
        have m2 : (Int.tmod (q : Int) 2 != 0) = false := by rw [bne, m1]; rfl
        have m3 : ((q : Int) % 2 == 0) = true := by
          have h : (q : Int) % 2 = 0 := by omega
          rw [h]; rfl
        have m4 : ((q : Int) % 2 != 0) = false := by rw [bne, m3]; rfl
        clear hr hd1 hd2 ch nh p2
        have hb : q ≤ 9007199254740992 := hq1
        clear hq1 hq2 p1 hU
        go_enter Try.func11, Try.ntmps11
        go_wp2_with fail
        refine (HA.out _).mono ?_
        rintro e w1 ⟨rfl, n1, rfl⟩
        go_wp2
        go_ret2
        exact ⟨rfl, _, rfl⟩
      · have e1 : decide (¬ IsNan d ∧ ¬ IsNan 4602678819172646912 ∧ v 4602678819172646912 < (t : Int)) = false := decide_eq_false (fun h => by have := h.2.2; omega)
        rw [e1] at f1
        clear e1
        have e2 : decide (¬ IsNan d ∧ ¬ IsNan 4602678819172646912 ∧ (t : Int) = v 4602678819172646912) = true := decide_eq_true ⟨hd1, ch.2, by omega⟩
        rw [e2] at f2
        clear e2
        have e3 : decide (¬ IsNan d ∧ ¬ IsNan 13826050856027422720 ∧ (t : Int) < v 13826050856027422720) = false := decide_eq_false (fun h => by have := h.2.2; omega)
        rw [e3] at f3
        clear e3
        have e4 : decide (¬ IsNan d ∧ ¬ IsNan 13826050856027422720 ∧ (t : Int) = v 13826050856027422720) = false := decide_eq_false (fun h => by have := h.2.2; omega)
        rw [e4] at f4
        clear e4
        rw [hr, if_neg (by omega)]
        have m1 : (Int.tmod (q : Int) 2 == 0) = false := by
          rw [(tmod_two q).1, p2]; rfl
        have m2 : (Int.tmod (q : Int) 2 != 0) = true := by rw [bne, m1]; rfl
        have m3 : ((q : Int) % 2 == 0) = false := by
          have h : (q : Int) % 2 = 1 := by omega
          rw [h]; rfl
        have m4 : ((q : Int) % 2 != 0) = true := by rw [bne, m3]; rfl
        clear hr hd1 hd2 ch nh p2
        have hb : q ≤ 9007199254740992 := hq1
        have hb2 : q < 9007199254740992 := hq2 (by omega)
        clear hq1 hq2 p1 hU
        go_enter Try.func11, Try.ntmps11
        go_wp2_with fail
        refine (HA.out _).mono ?_
        rintro e w1 ⟨rfl, n1, rfl⟩
        go_wp2
        go_ret2
        exact ⟨by congr 4, _, rfl⟩
      · have e1 : decide (¬ IsNan d ∧ ¬ IsNan 4602678819172646912 ∧ v 4602678819172646912 < (t : Int)) = true := decide_eq_true ⟨hd1, ch.2, by omega⟩
        rw [e1] at f1
        clear e1
        have e2 : decide (¬ IsNan d ∧ ¬ IsNan 4602678819172646912 ∧ (t : Int) = v 4602678819172646912) = false := decide_eq_false (fun h => by have := h.2.2; omega)
        rw [e2] at f2
        clear e2
        have e3 : decide (¬ IsNan d ∧ ¬ IsNan 13826050856027422720 ∧ (t : Int) < v 13826050856027422720) = false := decide_eq_false (fun h => by have := h.2.2; omega)
        rw [e3] at f3
        clear e3
        have e4 : decide (¬ IsNan d ∧ ¬ IsNan 13826050856027422720 ∧ (t : Int) = v 13826050856027422720) = false := decide_eq_false (fun h => by have := h.2.2; omega)
        rw [e4] at f4
        clear e4
        rw [hr, if_neg (by omega)]
        clear hr hd1 hd2 ch nh p2
        have hb : q ≤ 9007199254740992 := hq1
        have hb2 : q < 9007199254740992 := hq2 (by omega)
        clear hq1 hq2 p1 hU
        go_enter Try.func11, Try.ntmps11
        go_wp2_with fail
        refine (HA.out _).mono ?_
        rintro e w1 ⟨rfl, n1, rfl⟩
        go_wp2
        go_ret2
        exact ⟨by congr 4, _, rfl⟩
    · rcases hsp with ⟨p1, p2⟩ | ⟨p1, p2⟩ | ⟨p1, p2⟩ | ⟨p1, p2⟩
      · have e1 : decide (¬ IsNan d ∧ ¬ IsNan 4602678819172646912 ∧ v 4602678819172646912 < -(t : Int)) = false := decide_eq_false (fun h => by have := h.2.2; omega)
        rw [e1] at f1
        clear e1
        have e2 : decide (¬ IsNan d ∧ ¬ IsNan 4602678819172646912 ∧ -(t : Int) = v 4602678819172646912) = false := decide_eq_false (fun h => by have := h.2.2; omega)
        rw [e2] at f2
        clear e2
        have e3 : decide (¬ IsNan d ∧ ¬ IsNan 13826050856027422720 ∧ -(t : Int) < v 13826050856027422720) = false := decide_eq_false (fun h => by have := h.2.2; omega)
        rw [e3] at f3
        clear e3
        have e4 : decide (¬ IsNan d ∧ ¬ IsNan 13826050856027422720 ∧ -(t : Int) = v 13826050856027422720) = false := decide_eq_false (fun h => by have := h.2.2; omega)
        rw [e4] at f4
        clear e4
        rw [hr, if_pos (by omega)]
        clear hr hd1 hd2 ch nh p2
        have hb : q ≤ 9007199254740992 := hq1
        clear hq1 hq2 p1 hU
        go_enter Try.func11, Try.ntmps11
        go_wp2_with fail
        refine (HA.out _).mono ?_
        rintro e w1 ⟨rfl, n1, rfl⟩
        go_wp2
        go_ret2
        exact ⟨rfl, _, rfl⟩
      · have e1 : decide (¬ IsNan d ∧ ¬ IsNan 4602678819172646912 ∧ v 4602678819172646912 < -(t : Int)) = false := decide_eq_false (fun h => by have := h.2.2; omega)
        rw [e1] at f1
        clear e1
        have e2 : decide (¬ IsNan d ∧ ¬ IsNan 4602678819172646912 ∧ -(t : Int) = v 4602678819172646912) = false := decide_eq_false (fun h => by have := h.2.2; omega)
        rw [e2] at f2
        clear e2
        have e3 : decide (¬ IsNan d ∧ ¬ IsNan 13826050856027422720 ∧ -(t : Int) < v 13826050856027422720) = false := decide_eq_false (fun h => by have := h.2.2; omega)
        rw [e3] at f3
        clear e3
        have e4 : decide (¬ IsNan d ∧ ¬ IsNan 13826050856027422720 ∧ -(t : Int) = v 13826050856027422720) = true := decide_eq_true ⟨hd1, nh.2, by omega⟩
        rw [e4] at f4
        clear e4
        rw [hr, if_pos (by omega)]
        have m1 : (Int.tmod (-(q : Int)) 2 == 0) = true := by
          rw [(tmod_two q).2, p2]; rfl
        have m2 : (Int.tmod (-(q : Int)) 2 != 0) = false := by rw [bne, m1]; rfl
        have m3 : ((q : Int) % 2 == 0) = true := by
          have h : (q : Int) % 2 = 0 := by omega
          rw [h]; rfl
        have m4 : ((q : Int) % 2 != 0) = false := by rw [bne, m3]; rfl
        clear hr hd1 hd2 ch nh p2
        have hb : q ≤ 9007199254740992 := hq1
        clear hq1 hq2 p1 hU
        go_enter Try.func11, Try.ntmps11
        go_wp2_with fail
        refine (HA.out _).mono ?_
        rintro e w1 ⟨rfl, n1, rfl⟩
        go_wp2
        go_ret2
        exact ⟨rfl, _, rfl⟩
      · have e1 : decide (¬ IsNan d ∧ ¬ IsNan 4602678819172646912 ∧ v 4602678819172646912 < -(t : Int)) = false := decide_eq_false (fun h => by have := h.2.2; omega)
        rw [e1] at f1
        clear e1
        have e2 : decide (¬ IsNan d ∧ ¬ IsNan 4602678819172646912 ∧ -(t : Int) = v 4602678819172646912) = false := decide_eq_false (fun h => by have := h.2.2; omega)
        rw [e2] at f2
        clear e2
        have e3 : decide (¬ IsNan d ∧ ¬ IsNan 13826050856027422720 ∧ -(t : Int) < v 13826050856027422720) = false := decide_eq_false (fun h => by have := h.2.2; omega)
        rw [e3] at f3
        clear e3
        have e4 : decide (¬ IsNan d ∧ ¬ IsNan 13826050856027422720 ∧ -(t : Int) = v 13826050856027422720) = true := decide_eq_true ⟨hd1, nh.2, by omega⟩
        rw [e4] at f4
        clear e4
        rw [hr, if_neg (by omega)]
        rw [show -((q + 1 : Nat) : Int) = -(q : Int) - 1 by omega]
        have m1 : (Int.tmod (-(q : Int)) 2 == 0) = false := by
          rw [(tmod_two q).2, p2]; rfl
        have m2 : (Int.tmod (-(q : Int)) 2 != 0) = true := by rw [bne, m1]; rfl
        have m3 : ((q : Int) % 2 == 0) = false := by
          have h : (q : Int) % 2 = 1 := by omega
          rw [h]; rfl
        have m4 : ((q : Int) % 2 != 0) = true := by rw [bne, m3]; rfl
        clear hr hd1 hd2 ch nh p2
        have hb : q ≤ 9007199254740992 := hq1
        have hb2 : q < 9007199254740992 := hq2 (by omega)
        clear hq1 hq2 p1 hU
        go_enter Try.func11, Try.ntmps11
        go_wp2_with fail
        refine (HA.out _).mono ?_
        rintro e w1 ⟨rfl, n1, rfl⟩
        go_wp2
        go_ret2
        exact ⟨rfl, _, rfl⟩
      · have e1 : decide (¬ IsNan d ∧ ¬ IsNan 4602678819172646912 ∧ v 4602678819172646912 < -(t : Int)) = false := decide_eq_false (fun h => by have := h.2.2; omega)
        rw [e1] at f1
        clear e1
        have e2 : decide (¬ IsNan d ∧ ¬ IsNan 4602678819172646912 ∧ -(t : Int) = v 4602678819172646912) = false := decide_eq_false (fun h => by have := h.2.2; omega)
        rw [e2] at f2
        clear e2
        have e3 : decide (¬ IsNan d ∧ ¬ IsNan 13826050856027422720 ∧ -(t : Int) < v 13826050856027422720) = true := decide_eq_true ⟨hd1, nh.2, by omega⟩
        rw [e3] at f3
        clear e3
        have e4 : decide (¬ IsNan d ∧ ¬ IsNan 13826050856027422720 ∧ -(t : Int) = v 13826050856027422720) = false := decide_eq_false (fun h => by have := h.2.2; omega)
        rw [e4] at f4
        clear e4
        rw [hr, if_neg (by omega)]
        rw [show -((q + 1 : Nat) : Int) = -(q : Int) - 1 by omega]
        clear hr hd1 hd2 ch nh p2
        have hb : q ≤ 9007199254740992 := hq1
        have hb2 : q < 9007199254740992 := hq2 (by omega)
        clear hq1 hq2 p1 hU
        go_enter Try.func11, Try.ntmps11
        go_wp2_with fail
        refine (HA.out _).mono ?_
        rintro e w1 ⟨rfl, n1, rfl⟩
        go_wp2
        go_ret2
        exact ⟨rfl, _, rfl⟩
  · rw [decide_eq_false hk, Fl.rnd_no hk]
    by_cases hn : IsNan x
    · rw [decide_eq_true hn] at HA
      go_enter Try.func11, Try.ntmps11
      go_wp2_with fail
      refine (HA.out _).mono ?_
      rintro e w1 ⟨rfl, n1, rfl⟩
      go_wp2
      go_ret2
      exact ⟨rfl, _, rfl⟩
    · rw [decide_eq_false hn] at HA
      have ho := fun h => hk (ok_lt.2 h)
      by_cases g : v 4845873199050653696 < v x
      · have g1 : (FloatKind.f64.format.order x 4845873199050653696 == some Ordering.gt) = true := by rw [Fl.gt_is]; exact decide_eq_true ⟨hn, c53.2.2, g⟩
        clear ho g
        go_enter Try.func11, Try.ntmps11
        go_wp2_with fail
        refine (HA.out _).mono ?_
        rintro e w1 ⟨rfl, n1, rfl⟩
        go_wp2
        go_ret2
        exact ⟨rfl, _, rfl⟩
      · have g1 : (FloatKind.f64.format.order x 4845873199050653696 == some Ordering.gt) = false := by rw [Fl.gt_is]; exact decide_eq_false (fun h => g h.2.2)
        have g2 : (FloatKind.f64.format.order x 14069245235905429504 == some Ordering.lt) = true := by rw [Fl.lt_is]; exact decide_eq_true ⟨hn, n53.2, Decidable.byContradiction fun h => ho ⟨g, h⟩⟩
        clear ho g
        go_enter Try.func11, Try.ntmps11
        go_wp2_with fail
        refine (HA.out _).mono ?_
        rintro e w1 ⟨rfl, n1, rfl⟩
        go_wp2
        go_ret2
        exact ⟨rfl, _, rfl⟩
end Go.Proofs.Ytbgpgdbheajekaa

/-
  Slices of float64 that read as a list; of a call's own: appended to, written. Conditions: the lengths add up to no more than 2^40.
-/
namespace Go.Proofs.Ytbgpgdbheajekaa
open Go.RowKit
open Pol (co)

theorem addr_add15 (b o j : Nat) : (⟨b, o, none⟩ : Addr).add j = ⟨b, o + j, none⟩ := Addr.add_mid b o j
theorem f64_info : (Try.prog.info? 22).map (fun i => (i.zero, i.size, i.bytes)) = some (some (.float .f64 0), 1, 8) := by kernel_rfl
def fv (l : List Nat) : List Value := l.map fun x : Nat => Value.float .f64 x
theorem fv_len (l : List Nat) : (fv l).length = l.length := by simp [fv]
theorem fv_at (l : List Nat) (i : Nat) (h : i < l.length) : (fv l)[i]? = some (.float .f64 (co l i)) := by simp [fv, co, List.getElem?_eq_getElem h]
theorem fv_one (l : List Nat) : ∀ u ∈ fv l, u.oneCell' = true := by
  intro u hu
  obtain ⟨x, _, rfl⟩ := List.mem_map.1 hu
  rfl
theorem fv_append (l m : List Nat) : fv (l ++ m) = fv l ++ fv m := by simp [fv]
/-- Each is a number of 64 bits. -/
def F64 (l : List Nat) : Prop := ∀ i, co l i < 18446744073709551616
/-- From address A on lie the numbers l. -/
def FRd (w : World) (A : Option Addr) (l : List Nat) : Prop := F64 l ∧ ∀ i, i < l.length → ∃ b o, A = some ⟨b, o, none⟩ ∧ w.cell? ⟨b, o + i, none⟩ = some (.float .f64 (co l i))
theorem FRd.ext {w w' : World} {A : Option Addr} {l : List Nat} (h : FRd w A l) (hx : Ext w w') : FRd w' A l := ⟨h.1, fun i hi => by
  obtain ⟨b, o, e, hc⟩ := h.2 i hi
  exact ⟨b, o, e, (hx.below.cell (p := ⟨b, o + i, none⟩) (block_lt_of_cell hc)).trans hc⟩⟩
theorem FRd.nil (w : World) (A : Option Addr) : FRd w A [] := ⟨fun i => by unfold co; simp, fun i hi => absurd hi (by simp)⟩
/-- A slice of numbers of the call's own. -/
def FMine (w : World) (base : Nat) (v : Value) (l : List Nat) : Prop := w.ownsRow base 22 1 v l.length (fv l)
theorem FMine.nil (w : World) (base : Nat) : FMine w base (.slice none 0 0) [] := World.ownsRow_nil w base _ _
theorem fmine_empty (w : World) : FMine (w.alloc (.cells #[] 22)) w.heap.size (.slice (some ⟨w.heap.size, 0, none⟩) 0 0) [] := World.ownsRow_lit w #[] 0 (Nat.le_refl _) (Nat.zero_le _) rfl
theorem FMine.slice {w : World} {base : Nat} {v : Value} {l : List Nat} (h : FMine w base v l) (hu : F64 l) : ∃ B c, v = .slice B l.length c ∧ l.length ≤ c ∧ FRd w B l := by
  rcases h.2 with ⟨rfl, hn⟩ | ⟨g, cap, cur, rfl, _, hg, hnc, _, _, htake⟩
  · have : l = [] := List.eq_nil_of_length_eq_zero hn
    subst this
    exact ⟨none, 0, rfl, Nat.le_refl _, FRd.nil _ _⟩
  · refine ⟨_, cap, rfl, hnc, hu, fun i hi => ⟨g, 0, rfl, ?_⟩⟩
    rw [Nat.zero_add, cell_of_row w g i cur _ _ hg, ← fv_at l i hi, ← htake, List.getElem?_take, if_pos (by omega)]
    simp
theorem FMine.ext {w w' : World} {base : Nat} {v : Value} {l : List Nat} (h : FMine w base v l) (hx : Ext w w') : FMine w' base v l :=
  World.ownsRow.kept h (row := none) ⟨hx.below.os, hx.below.tape, hx.below.output, hx.below.size, fun k hk _ => hx.below.block k hk⟩ (by
    cases hb : v.ownBlock with
    | none => exact .inl rfl
    | some k => exact .inr (by simp))
theorem FMine.keep {w w' : World} {base : Nat} {v : Value} {l : List Nat} {row : Option Nat} (h : FMine w base v l) (hg : w.grownBy w' row) (hne : ∀ k, v.ownBlock = some k → some k ≠ row) : FMine w' base v l :=
  World.ownsRow.kept h hg (by
    cases hb : v.ownBlock with
    | none => exact .inl rfl
    | some k => exact .inr (hne k hb))
theorem FMine.block {w : World} {base : Nat} {v : Value} {l : List Nat} (h : FMine w base v l) : ∀ k, v.ownBlock = some k → base ≤ k ∧ k < w.heap.size := fun k hk => World.ownsRow.lt h k hk
theorem FMine.down {w : World} {base base' : Nat} {v : Value} {l : List Nat} (h : FMine w base v l) (hb : base' ≤ base) : FMine w base' v l :=
  ⟨h.1, h.2.imp id fun ⟨g, cap, cur, h1, h2, h3⟩ => ⟨g, cap, cur, h1, Nat.le_trans hb h2, h3⟩⟩
/-- A number is put into numbers of a call's own. -/
theorem FMine.put {w : World} {base g n c i x : Nat} {l : List Nat} (h : FMine w base (.slice (some ⟨g, 0, none⟩) n c) l) : FMine (w.setCell ⟨g, i, none⟩ (.float .f64 x)) base (.slice (some ⟨g, 0, none⟩) n c) (l.set i x) := by
  rcases h.2 with ⟨e, _⟩ | ⟨g', cap, cur, e, hb, hg, hnc, hcm, hcs, ht⟩
  · cases e
  · injection e with e1 e2 e3
    injection e1 with e1
    injection e1 with e1
    subst e1; subst e3
    refine ⟨by rw [fv_len, List.length_set, Nat.mul_one], .inr ⟨g, c, cur.setIfInBounds i (.float .f64 x), by rw [List.length_set, e2], hb, heap_setCell_same w g i cur _ _ hg, by rw [List.length_set]; exact hnc, hcm, by simpa using hcs, ?_⟩⟩
    rw [List.length_set, Array.toList_setIfInBounds, List.take_set, ht]
    unfold fv
    rw [List.map_set]
theorem FMine.spot {w : World} {base : Nat} {v : Value} {l : List Nat} (h : FMine w base v l) {i : Nat} (hi : i < l.length) : ∃ g n c, v = .slice (some ⟨g, 0, none⟩) n c ∧ base ≤ g ∧ w.cell? ⟨g, i, none⟩ = some (.float .f64 (co l i)) ∧ w.frozen? ⟨g, i, none⟩ = false := by
  rcases h.2 with ⟨rfl, hn⟩ | ⟨g, cap, cur, rfl, hb, hg, hnc, _, _, htake⟩
  · omega
  · refine ⟨g, _, cap, rfl, hb, ?_, frozen_of_row w g i cur _ hg⟩
    rw [cell_of_row w g i cur _ _ hg, ← fv_at l i hi, ← htake, List.getElem?_take, if_pos (by omega)]
    simp
set_option maxRecDepth 100000 in
theorem run_append_f64 (w : World) (base : Nat) (ty : TypeId) (v : Value) (l m : List Nat) (hown : FMine w base v l) (A : Option Addr) (c : Nat) (hr : FRd w A m)
    (hlen : l.length + m.length ≤ 1099511627776) (hbase : base ≤ w.heap.size) :
    ∃ v' w', (Builtin.append_ #[32, 32] ty #[v, .slice A m.length c]).run Try.prog w = .ok v' w' ∧ FMine w' base v' (l ++ m) ∧ w.grownBy w' v.ownBlock ∧ (v'.ownBlock = v.ownBlock ∨ v'.ownBlock = some w.heap.size) := by
  obtain ⟨i0, hi, hz0, hz1, hz2⟩ := info_parts f64_info
  cases A with
  | none =>
    have hm : m = [] := by
      rcases Nat.eq_zero_or_pos m.length with h | h
      · exact List.eq_nil_of_length_eq_zero h
      · obtain ⟨_, _, e, _⟩ := hr.2 0 h; cases e
    subst hm
    refine ⟨v, w, ?_, by simpa using hown, ⟨rfl, rfl, rfl, Nat.le_refl _, fun _ _ _ => rfl⟩, .inl rfl⟩
    rcases hown.2 with ⟨rfl, _⟩ | ⟨g, cap, cur, rfl, _, _, hnc, _⟩
    · simp [Builtin.append_, run_underlying Try.underlying32, sizeOf, typeInfo, hi, Builtin.lenOf, Builtin.firstCells]
    · simp [Builtin.append_, run_underlying Try.underlying32, sizeOf, typeInfo, hi, Builtin.lenOf, Builtin.firstCells, hnc, storeCells]
  | some a =>
    have hcells : ∀ j u, (fv m)[j]? = some u → w.cell? (a.add j) = some u := by
      intro j u hu
      have hj : j < m.length := by
        have := (List.getElem?_eq_some_iff.1 hu).1
        rwa [fv_len] at this
      obtain ⟨b, o, e, hc⟩ := hr.2 j hj
      injection e with e
      subst e
      rw [addr_add15, hc, ← fv_at m j hj, hu]
    obtain ⟨v', w', h1, h2, h3, _, h5⟩ := run_append_own_at (P := Try.prog) w base 32 ty 22 i0 (.float .f64 0) 1 8 Try.underlying32 hi hz0 hz1 hz2 rfl (by omega) v l.length (fv l) hown a m.length c (fv m) (by rw [fv_len, Nat.mul_one]) hcells (fv_one m)
      (by unfold maxLen; omega) (by omega) hbase
    exact ⟨v', w', h1, by unfold FMine; rw [List.length_append, fv_append]; exact h2, h3, h5⟩
/-- At the operation, for the walk. -/
theorem wpList_append_f64 {ops : Array Oper} {rest : List Oper} {o : Oper} {a : Act} {w : World} {Q : Exit → Act → World → Prop} (hgd : o.guard = none) (s x : Operand)
    (ho : o.op = .call { callee := .builtin .append, args := #[s, x], argTypes := #[32, 32] })
    (base : Nat) (v : Value) (l m : List Nat) (hs : a.eval s = v) (hown : FMine w base v l) (A : Option Addr) (n c : Nat) (hx : a.eval x = .slice A n c) (hn : m.length = n) (hr : FRd w A m)
    (hlen : l.length + m.length ≤ 1099511627776) (hbase : base ≤ w.heap.size)
    (h : ∀ v' w', FMine w' base v' (l ++ m) → w.grownBy w' v.ownBlock → (v'.ownBlock = v.ownBlock ∨ v'.ownBlock = some w.heap.size) → wpList Try.prog ops Q rest (a.put o.dst v') w') :
    wpList Try.prog ops Q (o :: rest) a w := by
  subst hn
  refine wpList_plain hgd fun K hK => ?_
  obtain ⟨v', w', hrun, h2, h3, h4⟩ := run_append_f64 w base o.type v l m hown A c hr hlen hbase
  unfold Oper.wp execOp
  simp only [ho, resolve, invoke, builtin, Sem.run_bind, Sem.run_pure, Result.andThen_ok, List.map_toArray, List.map_cons, List.map_nil, hs, hx, hrun]
  exact hK _ _ (h v' w' h2 h3 h4)
theorem FRd.drewN {w : World} {A : Option Addr} {l : List Nat} (h : FRd w A l) (n : Nat) : FRd (w.drewN n) A l := h
theorem f64_list {l : List Nat} (h : ∀ x ∈ l, x < 18446744073709551616) : F64 l := fun i => by
  unfold co
  cases hi : l[i]? with
  | none => decide
  | some x => exact h x (List.mem_of_getElem? hi)
theorem F64.mem {l : List Nat} (h : F64 l) : ∀ x ∈ l, x < 18446744073709551616 := fun x hx => by
  obtain ⟨i, hi, rfl⟩ := List.mem_iff_getElem.1 hx
  have := h i
  unfold co at this
  rwa [List.getElem?_eq_getElem hi] at this
theorem FRd.take {w : World} {A : Option Addr} {l : List Nat} (h : FRd w A l) (k : Nat) : FRd w A (l.take k) := by
  refine ⟨f64_list fun x hx => h.1.mem x (List.mem_of_mem_take hx), fun i hi => ?_⟩
  have hk : i < k ∧ i < l.length := by rw [List.length_take] at hi; omega
  obtain ⟨b, o, e, hc⟩ := h.2 i hk.2
  refine ⟨b, o, e, ?_⟩
  rw [hc]
  unfold co
  rw [List.getElem?_take, if_pos hk.1]
/-- s[:h] of floats. -/
theorem run_to_f64 (A : Option Addr) (len cap h : Nat) (hh : h ≤ cap) (W : World) :
    (Instr.slice 32 (.slice A len cap) none (some (.int .i64 (h : Int))) none).run Try.prog W = .ok (.slice A h cap) W := by
  obtain ⟨i0, hi, hz0, hz1, hz2⟩ := info_parts f64_info
  have he : Try.prog.elem 32 = 22 := by kernel_rfl
  rw [run_slice_h W 32 _ len cap (by rw [he]; exact Try.underlying32) .i64 (h : Int) (by omega) (by omega), he]
  cases A <;> simp [sizeOf, typeInfo, hi, hz1, Result.andThen, sliced, Addr.add]
/-- s[l:] of floats, whole. -/
theorem run_rest_f64 (A : Option Addr) (len cap l : Nat) (hl : l ≤ len) (hc : len ≤ cap) : ∃ X : Option Addr, (∀ W, (Instr.slice 32 (.slice A len cap) (some (.int .i64 (l : Int))) none none).run Try.prog W = .ok (.slice X (len - l) (cap - l)) W) ∧
    (∀ w L, FRd w A L → L.length = len → FRd w X (L.drop l)) := by
  obtain ⟨i0, hi, hz0, hz1, hz2⟩ := info_parts f64_info
  have he : Try.prog.elem 32 = 22 := by kernel_rfl
  refine ⟨if cap = l then A else A.map (·.add l), fun W => ?_, fun w L h hL => ⟨f64_list fun x hx => h.1.mem x (List.mem_of_mem_drop hx), fun i hi => ?_⟩⟩
  · rw [run_slice_l W 32 _ len cap (by rw [he]; exact Try.underlying32) .i64 (l : Int) (by omega) (by omega), he]
    cases A <;> simp [sizeOf, typeInfo, hi, hz1, Result.andThen, sliced]
  · rw [List.length_drop] at hi
    obtain ⟨b', o', e, hc⟩ := h.2 (l + i) (by omega)
    subst e
    refine ⟨b', o' + l, by rw [if_neg (by omega)]; simp [addr_add15], ?_⟩
    rw [Nat.add_assoc, hc]
    unfold co
    rw [List.getElem?_drop]
theorem frd_one (w : World) (x : Nat) (hx : x < 18446744073709551616) : FRd (w.alloc (.cells #[.float .f64 x] 22)) (some ⟨w.heap.size, 0, none⟩) [x] :=
  ⟨f64_list (by simpa using hx), fun i hi => ⟨w.heap.size, 0, rfl, by
    rw [cell_of_row _ _ _ _ _ _ (heap_alloc_new w _)]
    match i, hi with
    | 0, _ => simp [co]⟩⟩
/-- A call that hands back a list of floats of its own. -/
def GivesF (l : List Nat) (w : World) (e : Ending) (w' : World) : Prop := ∃ v, e = .returned v ∧ FMine w' w.heap.size v l ∧ F64 l ∧ Ext w w'
end Go.Proofs.Ytbgpgdbheajekaa

/-
  Rates in order, on plain lists: put in one by one; any list in order with the same rates is the same, place by place. Conditions: none; nothing of the program is named here.
-/
namespace Fl

/-- In order. -/
def Up (l : List Nat) : Prop := l.Pairwise fun a b => K a ≤ K b
/-- x is put behind the first k. -/
def insAt (l : List Nat) (k x : Nat) : List Nat := l.take k ++ x :: l.drop k
/-- The place where x is put: behind all that isn't behind it, from the end. -/
def spot (l : List Nat) (x : Nat) : Nat → Nat
  | 0 => 0
  | k + 1 => if K x < K (l[k]?.getD 0) then spot l x k else k + 1
def ins (l : List Nat) (x : Nat) : List Nat := insAt l (spot l x l.length) x
/-- Put in one by one. -/
def srt : List Nat → List Nat → List Nat
  | acc, [] => acc
  | acc, x :: r => srt (ins acc x) r
def sorted (l : List Nat) : List Nat := srt [] l

theorem spot_le (l : List Nat) (x : Nat) : ∀ k, spot l x k ≤ k
  | 0 => Nat.le_refl _
  | k + 1 => by
    unfold spot
    split
    · exact Nat.le_succ_of_le (spot_le l x k)
    · exact Nat.le_refl _
theorem spot_behind (l : List Nat) (x : Nat) : ∀ k i, spot l x k ≤ i → i < k → K x < K (l[i]?.getD 0)
  | 0, i, _, h => absurd h (by omega)
  | k + 1, i, h1, h2 => by
    unfold spot at h1
    split at h1
    · rename_i hk
      by_cases e : i = k
      · subst e; exact hk
      · exact spot_behind l x k i h1 (by omega)
    · omega
theorem spot_at (l : List Nat) (x : Nat) : ∀ k, 0 < spot l x k → K (l[spot l x k - 1]?.getD 0) ≤ K x
  | 0, h => absurd h (by unfold spot; omega)
  | k + 1, h => by
    unfold spot at h ⊢
    split
    · rename_i hk
      rw [if_pos hk] at h
      exact spot_at l x k h
    · rename_i hk
      rw [Nat.add_sub_cancel]
      omega
theorem spot_yes {l : List Nat} {x k : Nat} (h : K x < K (l[k]?.getD 0)) : spot l x (k + 1) = spot l x k := if_pos h
theorem spot_no {l : List Nat} {x k : Nat} (h : ¬ K x < K (l[k]?.getD 0)) : spot l x (k + 1) = k + 1 := if_neg h
theorem insAt_len (l : List Nat) (k x : Nat) : (insAt l k x).length = l.length + 1 := by
  unfold insAt
  rw [List.length_append, List.length_cons, List.length_take, List.length_drop]
  omega
theorem ins_len (l : List Nat) (x : Nat) : (ins l x).length = l.length + 1 := insAt_len ..
theorem srt_len (acc l : List Nat) : (srt acc l).length = acc.length + l.length := by
  induction l generalizing acc with
  | nil => rfl
  | cons x r ih => unfold srt; rw [ih, ins_len, List.length_cons]; omega
theorem sorted_len (l : List Nat) : (sorted l).length = l.length := by unfold sorted; rw [srt_len]; simp
theorem insAt_perm (l : List Nat) (k x : Nat) : (insAt l k x).Perm (x :: l) := by
  unfold insAt
  have h := List.perm_middle (a := x) (l₁ := l.take k) (l₂ := l.drop k)
  rwa [List.take_append_drop] at h
theorem srt_perm (acc l : List Nat) : (srt acc l).Perm (acc ++ l) := by
  induction l generalizing acc with
  | nil => unfold srt; rw [List.append_nil]
  | cons x r ih =>
    unfold srt
    refine (ih (ins acc x)).trans ?_
    refine ((insAt_perm acc _ x).append_right r).trans ?_
    exact List.perm_middle.symm
theorem sorted_perm (l : List Nat) : (sorted l).Perm l := srt_perm [] l
theorem up_ins {l : List Nat} (h : Up l) (x : Nat) : Up (ins l x) := by
  unfold ins insAt Up
  have h1 := spot_le l x l.length
  have hb := spot_behind l x l.length
  have ha := spot_at l x l.length
  generalize spot l x l.length = k at *
  have hp := List.pairwise_iff_getElem.1 h
  have hget : ∀ i (hi : i < l.length), l[i]?.getD 0 = l[i] := fun i hi => by rw [List.getElem?_eq_getElem hi]; rfl
  have hlow : ∀ a ∈ l.take k, K a ≤ K x := fun a ha' => by
    obtain ⟨i, hi, rfl⟩ := List.mem_iff_getElem.1 ha'
    rw [List.length_take] at hi
    rw [List.getElem_take]
    have hk : 0 < k := by omega
    have h2 := ha hk
    rw [hget _ (by omega)] at h2
    by_cases e : i = k - 1
    · subst e; exact h2
    · have := hp i (k - 1) (by omega) (by omega) (by omega)
      omega
  have hhigh : ∀ b ∈ l.drop k, K x ≤ K b := fun b hb' => by
    obtain ⟨i, hi, rfl⟩ := List.mem_iff_getElem.1 hb'
    rw [List.length_drop] at hi
    rw [List.getElem_drop]
    have h2 := hb (k + i) (by omega) (by omega)
    rw [hget _ (by omega)] at h2
    omega
  rw [List.pairwise_append]
  refine ⟨h.sublist (List.take_sublist _ _), ?_, ?_⟩
  · rw [List.pairwise_cons]
    exact ⟨hhigh, h.sublist (List.drop_sublist _ _)⟩
  · intro a ha' b hb'
    rcases List.mem_cons.1 hb' with rfl | hb'
    · exact hlow a ha'
    · have := hlow a ha'
      have := hhigh b hb'
      omega
theorem up_srt {acc : List Nat} (h : Up acc) (l : List Nat) : Up (srt acc l) := by
  induction l generalizing acc with
  | nil => exact h
  | cons x r ih => unfold srt; exact ih (up_ins h x)
theorem up_sorted (l : List Nat) : Up (sorted l) := up_srt List.Pairwise.nil l
/-- Any list in order with the same rates is the same, place by place. -/
theorem up_one {a b : List Nat} (ha : Up a) (hb : Up b) (hp : a.Perm b) : a.map K = b.map K := by
  have h1 : (a.map K).Pairwise (· ≤ ·) := List.pairwise_map.2 ha
  have h2 : (b.map K).Pairwise (· ≤ ·) := List.pairwise_map.2 hb
  exact (hp.map K).eq_of_pairwise (fun x y _ _ h1 h2 => Int.le_antisymm h1 h2) h1 h2
theorem keys_at {a b : List Nat} (h : a.map K = b.map K) (i : Nat) : K (a[i]?.getD 0) = K (b[i]?.getD 0) := by
  have e : ∀ l : List Nat, K (l[i]?.getD 0) = (l.map K)[i]?.getD (K 0) := fun l => by
    rw [List.getElem?_map]
    cases l[i]? <;> rfl
  rw [e, e, h]
theorem keys_len {a b : List Nat} (h : a.map K = b.map K) : a.length = b.length := by
  have := congrArg List.length h
  simpa using this
/-- The middle one: no more than half are ahead, and fewer than the rest behind. -/
def ahead (l : List Nat) (m : Nat) : Nat := l.countP fun x => decide (K x < K m)
def behind (l : List Nat) (m : Nat) : Nat := l.countP fun x => decide (K m < K x)
theorem mid_count {l s : List Nat} (hs : Up s) (hp : s.Perm l) {m : Nat} (h0 : 0 < l.length) (hm : K m = K (s[l.length / 2]?.getD 0)) : ahead l m ≤ l.length / 2 ∧ behind l m < l.length - l.length / 2 := by
  have hlen := hp.length_eq
  have h1 : ahead l m = ahead s m := (hp.countP_eq _).symm
  have h2 : behind l m = behind s m := (hp.countP_eq _).symm
  rw [h1, h2]
  have hk : l.length / 2 < s.length := by omega
  have hget : s[l.length / 2]?.getD 0 = s[l.length / 2] := by rw [List.getElem?_eq_getElem hk]; rfl
  rw [hget] at hm
  have hpw := List.pairwise_iff_getElem.1 hs
  generalize l.length / 2 = k at *
  have hsp : s = s.take k ++ s.drop k := (List.take_append_drop k s).symm
  constructor
  · unfold ahead
    rw [hsp, List.countP_append]
    have z : List.countP (fun x => decide (K x < K m)) (s.drop k) = 0 := by
      rw [List.countP_eq_zero]
      intro x hx
      obtain ⟨i, hi, rfl⟩ := List.mem_iff_getElem.1 hx
      rw [List.length_drop] at hi
      rw [List.getElem_drop]
      by_cases e : i = 0
      · subst e
        simp [hm]
      · have := hpw k (k + i) hk (by omega) (by omega)
        simp
        omega
    have := List.countP_le_length (p := fun x => decide (K x < K m)) (l := s.take k)
    rw [List.length_take] at this
    omega
  · unfold behind
    have hsp2 : s = s.take (k + 1) ++ s.drop (k + 1) := (List.take_append_drop (k + 1) s).symm
    rw [hsp2, List.countP_append]
    have z : List.countP (fun x => decide (K m < K x)) (s.take (k + 1)) = 0 := by
      rw [List.countP_eq_zero]
      intro x hx
      obtain ⟨i, hi, rfl⟩ := List.mem_iff_getElem.1 hx
      rw [List.length_take] at hi
      rw [List.getElem_take]
      by_cases e : i = k
      · subst e
        simp [hm]
      · have := hpw i k (by omega) hk (by omega)
        simp
        omega
    have := List.countP_le_length (p := fun x => decide (K m < K x)) (l := s.drop (k + 1))
    rw [List.length_drop] at this
    omega
end Fl

/-
  The document's Lists of layer 15: are rates alike, place by place? Conditions: none.
-/
namespace Go.Proofs.Ytbgpgdbheajekaa
open Go.RowKit
open Pol (co)
open Fl (K)

theorem keys_co {a b : List Nat} (h : a.map K = b.map K) (i : Nat) : K (co a i) = K (co b i) := Fl.keys_at h i
theorem keys_of {a b : List Nat} (hl : a.length = b.length) (h : ∀ i, i < a.length → K (co a i) = K (co b i)) : a.map K = b.map K := by
  apply List.ext_getElem
  · simp [hl]
  · intro i h1 h2
    rw [List.length_map] at h1 h2
    rw [List.getElem_map, List.getElem_map]
    have := h i h1
    unfold co at this
    rwa [List.getElem?_eq_getElem h1, List.getElem?_eq_getElem h2] at this
theorem ref15_lists (la lb : List Nat) (A B : Option Addr) (n m c d : Nat) (w : World) (hn : la.length = n) (hm : lb.length = m) (ha : FRd w A la) (hb : FRd w B lb) (hs : n ≤ 1048576) (hs2 : m ≤ 1048576) :
    Calls Try.prog 23 #[.slice A n c, .slice B m d] w (Hands (.bool (decide (la.map K = lb.map K))) w) := by
  by_cases hnm : n = m
  · subst hnm
    have HA := Lib.hid ha
    have HB := Lib.hid hb
    have HN := Lib.hid hn
    have HM := Lib.hid hm
    have HT := Lib.hid (show ∀ i, i < n → K (co la i) ≠ K (co lb i) → decide (la.map K = lb.map K) = false from fun i _ h => decide_eq_false fun e => h (keys_co e i))
    have HU := Lib.hid (show (∀ i, i < n → K (co la i) = K (co lb i)) → decide (la.map K = lb.map K) = true from fun h => decide_eq_true (keys_of (hn.trans hm.symm) (fun i hi => h i (by omega))))
    clear ha hb hn hm
    generalize decide (la.map K = lb.map K) = r at *
    go_enter Try.func23, Try.ntmps23
    go_wp2
    go_loopg [13] n (fun g s wx => ∃ i k : Nat, i + g = n ∧ s = .int .i64 (i : Int) ∧ wx = w.drewN k ∧ ∀ j, j < i → K (co la j) = K (co lb j))
    case atStart => exact ⟨0, 0, by omega, rfl, rfl, fun j h => absurd h (by omega)⟩
    case round =>
      obtain ⟨i, k, hig, rfl, hwx, hall⟩ := hrel
      have HWX := Lib.hid hwx
      clear hwx
      have HALL := Lib.hid hall
      clear hall
      cases gk with
      | zero =>
        obtain rfl : i = n := by omega
        clear hig
        have hr := HU.out HALL.out
        subst hr
        go_wp2
        go_ret
        exact ⟨rfl, k, HWX.out⟩
      | succ g =>
        have hi : i < n := by omega
        have hiI : (i : Int) < (n : Int) := by omega
        obtain ⟨b1, o1, rfl, hc1⟩ := HA.out.2 i (by rw [HN.out]; exact hi)
        obtain ⟨b2, o2, rfl, hc2⟩ := HB.out.2 i (by rw [HM.out]; exact hi)
        have hd1 : wr.cell? ⟨b1, o1 + i, none⟩ = some (.float .f64 (co la i)) := by rw [HWX.out]; exact hc1
        have hd2 : wr.cell? ⟨b2, o2 + i, none⟩ = some (.float .f64 (co lb i)) := by rw [HWX.out]; exact hc2
        clear hc1 hc2
        have HIG := Lib.hid hig
        have HC := Lib.hid (HT.out i hi)
        have HS := Lib.hid (ref15_same (co la i) (co lb i))
        have HE := Lib.hid (show K (co la i) = K (co lb i) → ∀ j, j < i + 1 → K (co la j) = K (co lb j) from fun h j hj => by
          by_cases e : j = i
          · subst e; exact h
          · exact HALL.out j (by omega))
        clear hig
        generalize co la i = x at *
        generalize co lb i = y at *
        by_cases he : K x = K y
        · rw [decide_eq_true he] at HS
          have HE' := Lib.hid (HE.out he)
          clear HE HC he
          go_wp2
          go_quiet (first | (go_at_call 15; exact quiet_hands (HS.out _)))
          go_wp2
          go_roundg g
          case measure => omega
          case rel => exact ⟨i + 1, _, by have := HIG.out; omega, by go_num, by rw [HWX.out, World.drewN_drewN], HE'.out⟩
        · rw [decide_eq_false he] at HS
          have hr := HC.out he
          subst hr
          clear HE HC he
          go_wp2
          go_quiet (first | (go_at_call 15; exact quiet_hands (HS.out _)))
          go_wp2
          go_ret
          exact ⟨rfl, k + nq, by rw [HWX.out, World.drewN_drewN]⟩
  · rw [decide_eq_false (fun e => hnm (by have := Fl.keys_len e; omega))]
    have d1 : ((n : Int) != (m : Int)) = true := by simp; omega
    have d2 : decide ((n : Int) = (m : Int)) = false := decide_eq_false (by omega)
    have d3 : decide (n = m) = false := decide_eq_false hnm
    clear ha hb hn hm
    go_enter Try.func23, Try.ntmps23
    go_wp2
    go_ret
    exact ⟨rfl, 0, rfl⟩
end Go.Proofs.Ytbgpgdbheajekaa

/-
  The document's Sort of layer 15. Conditions: no more than 2^16 rates.
-/
namespace Go.Proofs.Ytbgpgdbheajekaa
open Go.RowKit
open Pol (co)
open Fl (K)

theorem f64_ins {o : List Nat} {x : Nat} (h : F64 o) (hx : x < 18446744073709551616) : F64 (Fl.ins o x) := f64_list fun y hy => by
  have hp := (Fl.insAt_perm o (Fl.spot o x o.length) x).mem_iff.1 hy
  rcases List.mem_cons.1 hp with rfl | hp
  · exact hx
  · exact h.mem y hp
theorem srt_next {l o : List Nat} {i : Nat} (hi : i < l.length) : Fl.srt o (l.drop i) = Fl.srt (Fl.ins o (co l i)) (l.drop (i + 1)) := by
  rw [List.drop_eq_getElem_cons hi]
  unfold co
  rw [List.getElem?_eq_getElem hi]
  rfl
set_option maxHeartbeats 3200000 in
theorem ref15_sort (l : List Nat) (A : Option Addr) (n c : Nat) (w : World) (hn : l.length = n) (hr : FRd w A l) (hl : n ≤ 65536) :
    Calls Try.prog 21 #[.slice A n c] w (GivesF (Fl.sorted l) w) := by
  have HN := Lib.hid hn
  have HR := Lib.hid hr
  clear hn hr
  go_enter Try.func21, Try.ntmps21
  go_wp2
  go_loopg [3, 9] n (fun g s3 s9 wx => ∃ i : Nat, i + g = n ∧ s9 = .int .i64 (i : Int) ∧ Ext w wx ∧ ∃ o, o.length = i ∧ F64 o ∧ FMine wx w.heap.size s3 o ∧ Fl.srt o (l.drop i) = Fl.sorted l)
  case atStart => exact ⟨0, by omega, rfl, Ext.refl _, [], rfl, fun i => by unfold co; simp, FMine.nil _ _, rfl⟩
  case round =>
    obtain ⟨i, hig, rfl, hx, o, ho, hof, hm, hst⟩ := hrel
    have HX := Lib.hid hx
    have HO := Lib.hid ho
    have HOF := Lib.hid hof
    have HM := Lib.hid hm
    have HST := Lib.hid hst
    clear hx hm hst
    obtain ⟨B, oc, rfl, hoc, hor⟩ := HM.out.slice hof
    rw [ho] at hoc ⊢
    have HOR := Lib.hid hor
    clear hor hof
    cases gk with
    | zero =>
      obtain rfl : i = n := by omega
      clear hig
      go_wp2
      go_ret
      refine ⟨_, rfl, ?_, ?_, HX.out⟩
      · have h := HST.out
        rw [← HN.out, List.drop_length] at h
        rw [← h]
        have h2 := HM.out
        rw [HO.out] at h2
        exact h2
      · have h := HST.out
        rw [← HN.out, List.drop_length] at h
        rw [← h]
        exact HOF.out
    | succ g =>
      have hi : i < n := by omega
      have hiI : (i : Int) < (n : Int) := by omega
      obtain ⟨b1, o1, rfl, hc1⟩ := HR.out.2 i (by rw [HN.out]; exact hi)
      have hx64 := HR.out.1 i
      have HNX := Lib.hid (HST.out.symm.trans (srt_next (by rw [HN.out]; exact hi))).symm
      have HIG := Lib.hid hig
      clear HST hig HM ho
      generalize co l i = x at *
      have HINS := Lib.hid (f64_ins HOF.out hx64)
      have HC0 := Lib.hid ((HX.out.below.cell (p := ⟨b1, o1 + i, none⟩) (block_lt_of_cell hc1)).trans hc1)
      clear hc1
      obtain ⟨wo, hwo⟩ : ∃ wq, wq = wr := ⟨_, rfl⟩
      subst hwo
      go_wp2
      go_loopg [5] i (fun k s wx => s = .int .i64 (k : Int) ∧ k ≤ i ∧ (∃ m, wx = wo.drewN m) ∧ Fl.spot o x k = Fl.spot o x o.length)
      case atStart => exact ⟨rfl, Nat.le_refl _, ⟨0, rfl⟩, by rw [HO.out]⟩
      case round =>
        obtain ⟨rfl, hki, ⟨m, hwm⟩, hsp⟩ := hrel
        have HXW := Lib.hid (show Ext wo wr by rw [hwm]; exact (Ext.refl _).drewN m)
        have HWM := Lib.hid hwm
        have HW := Lib.hid (HOR.out.ext HXW.out)
        have hc1 := (HXW.out.below.cell (p := ⟨b1, o1 + i, none⟩) (block_lt_of_cell HC0.out)).trans HC0.out
        clear hwm
        cases gk with
        | zero =>
          have HC1 := Lib.hid hc1
          have HSP := Lib.hid (show [] ++ [x] ++ o = Fl.ins o x by unfold Fl.ins Fl.insAt; rw [← hsp]; unfold Fl.spot; simp)
          clear hsp hc1
          go_wp2
          go_quiet (fail)
          have HXWz := Lib.hid (HXW.out.drewN nq)
          have HWz := Lib.hid (HW.out.drewN nq)
          have HC1z := Lib.hid (show (wr.drewN nq).cell? ⟨b1, o1 + i, none⟩ = some (.float .f64 x) from HC1.out)
          clear HXW HW HC1 HWM
          generalize wr.drewN nq = wz at *
          have hc2 := HC1z.out
          have HY := Lib.hid (frd_one wz x hx64)
          cases B with
          | none =>
            go_wp2_with (first | (at_builtin; refine wpList_append_f64 rfl (.tmp 35) (.tmp 40) rfl wz.heap.size _ [] [x] rfl (FMine.nil _ _) (some ⟨wz.heap.size, 0, none⟩) 1 1 rfl rfl HY.out (by simp) ((Ext.refl wz).alloc _).size ?_; intro v3 w3 hv3 hg3 _; have HV3 := Lib.hid hv3; have HX3 := Lib.hid (((Ext.refl wz).alloc _).more hg3 (fun q e => by cases e)); clear hv3 hg3 hc2 HY) | (at_builtin; refine wpList_append_f64 rfl (.tmp 42) (.tmp 45) rfl wz.heap.size _ ([] ++ [x]) o rfl HV3.out _ i _ rfl HO.out (HWz.out.ext HX3.out) (by rw [HO.out]; simp; omega) HX3.out.size ?_; intro v4 w4 hv4 hg4 _; have HV4 := Lib.hid hv4; have HX4 := Lib.hid (HX3.out.more hg4 (fun q e => (HV3.out.block q e).1)); clear hv4 hg4) | fail)
            go_roundg g
            case measure => omega
            case rel => exact ⟨i + 1, by have := HIG.out; omega, by go_num, (HX.out.trans HXWz.out).trans HX4.out, Fl.ins o x, by rw [Fl.ins_len, HO.out], HINS.out, by rw [← HSP.out]; exact HV4.out.down (HX.out.trans HXWz.out).size, HNX.out⟩
          | some a =>
            go_wp2_with (first | (at_builtin; refine wpList_append_f64 rfl (.tmp 35) (.tmp 40) rfl wz.heap.size _ [] [x] rfl (FMine.nil _ _) (some ⟨wz.heap.size, 0, none⟩) 1 1 rfl rfl HY.out (by simp) ((Ext.refl wz).alloc _).size ?_; intro v3 w3 hv3 hg3 _; have HV3 := Lib.hid hv3; have HX3 := Lib.hid (((Ext.refl wz).alloc _).more hg3 (fun q e => by cases e)); clear hv3 hg3 hc2 HY) | (at_builtin; refine wpList_append_f64 rfl (.tmp 42) (.tmp 45) rfl wz.heap.size _ ([] ++ [x]) o rfl HV3.out _ i _ rfl HO.out (HWz.out.ext HX3.out) (by rw [HO.out]; simp; omega) HX3.out.size ?_; intro v4 w4 hv4 hg4 _; have HV4 := Lib.hid hv4; have HX4 := Lib.hid (HX3.out.more hg4 (fun q e => (HV3.out.block q e).1)); clear hv4 hg4) | fail)
            go_roundg g
            case measure => omega
            case rel => exact ⟨i + 1, by have := HIG.out; omega, by go_num, (HX.out.trans HXWz.out).trans HX4.out, Fl.ins o x, by rw [Fl.ins_len, HO.out], HINS.out, by rw [← HSP.out]; exact HV4.out.down (HX.out.trans HXWz.out).size, HNX.out⟩
        | succ k =>
          have e1 : ((k + 1 : Nat) : Int) - 1 = (k : Int) := by omega
          have e2 : (k : Int) + 1 - 1 = (k : Int) := by omega
          have d1 : decide ((0 : Int) < ((k + 1 : Nat) : Int)) = true := decide_eq_true (by omega)
          have hkI : (k : Int) < (i : Int) := by omega
          obtain ⟨b2, o2, hB, hc2⟩ := HW.out.2 k (by rw [HO.out]; omega)
          have HSM := Lib.hid (ref15_less x (co o k))
          by_cases hlt : K x < K (co o k)
          · rw [decide_eq_true hlt] at HSM
            have HSP := Lib.hid (show Fl.spot o x k = Fl.spot o x o.length by rw [← hsp]; exact (Fl.spot_yes hlt).symm)
            clear hsp hlt
            generalize co o k = y at *
            subst hB
            go_wp2
            go_quiet (first | (go_at_call 13; exact quiet_hands (HSM.out _)))
            go_wp2
            go_roundg k
            case measure => omega
            case rel => exact ⟨by go_num, by omega, ⟨m + nq, by rw [HWM.out, World.drewN_drewN]⟩, HSP.out⟩
          · rw [decide_eq_false hlt] at HSM
            have HSP := Lib.hid (show o.take (k + 1) ++ [x] ++ o.drop (k + 1) = Fl.ins o x by
              have e : Fl.spot o x o.length = k + 1 := by rw [← hsp]; exact Fl.spot_no hlt
              unfold Fl.ins Fl.insAt
              rw [e]
              simp)
            clear hsp hlt
            generalize co o k = y at *
            subst hB
            have HC1 := Lib.hid hc1
            have HTK := Lib.hid (show (o.take (k + 1)).length = (k + 1) by rw [List.length_take, HO.out]; omega)
            have hz : (k : Int) + 1 = (((k + 1) : Nat) : Int) := by omega
            have hcut : ∀ W, (Instr.slice 32 (.slice (some ⟨b2, o2, none⟩) i oc) none (some (.int .i64 ((k : Int) + 1))) none).run Try.prog W = .ok (.slice (some ⟨b2, o2, none⟩) ((k + 1)) oc) W := fun W => by rw [hz]; exact run_to_f64 (some ⟨b2, o2, none⟩) i oc (k + 1) (by omega) W
            obtain ⟨X, hxc1, hxc2⟩ := run_rest_f64 (some ⟨b2, o2, none⟩) i oc (k + 1) (by omega) hoc
            rw [← hz] at hxc1
            have HXC2 := Lib.hid hxc2
            clear hxc2 hz
            go_wp2
            go_quiet (first | (go_at_call 13; exact quiet_hands (HSM.out _)))
            have HXWz := Lib.hid (HXW.out.drewN nq)
            have HWz := Lib.hid (HW.out.drewN nq)
            have HC1z := Lib.hid (show (wr.drewN nq).cell? ⟨b1, o1 + i, none⟩ = some (.float .f64 x) from HC1.out)
            clear HXW HW HC1 hc1 hc2 HWM
            generalize wr.drewN nq = wz at *
            go_wp2_with (first | (at_builtin; refine wpList_append_f64 rfl (.tmp 30) (.tmp 33) rfl wz.heap.size _ [] (o.take (k + 1)) rfl (FMine.nil _ _) (some ⟨b2, o2, none⟩) (k + 1) oc rfl HTK.out (HWz.out.take (k + 1)) (by rw [HTK.out]; simp; omega) (Nat.le_refl _) ?_; intro v2 w2 hv2 hg2 _; have HV2 := Lib.hid hv2; have HX2 := Lib.hid ((Ext.refl wz).more hg2 (fun q e => by cases e)); clear hv2 hg2; have hc2 : w2.cell? ⟨b1, o1 + i, none⟩ = some (.float .f64 x) := (HX2.out.below.cell (p := ⟨b1, o1 + i, none⟩) (block_lt_of_cell HC1z.out)).trans HC1z.out; have HY := Lib.hid (frd_one w2 x hx64)) | (at_builtin; refine wpList_append_f64 rfl (.tmp 35) (.tmp 40) rfl wz.heap.size _ (o.take (k + 1)) [x] rfl (HV2.out.ext ((Ext.refl _).alloc _)) (some ⟨w2.heap.size, 0, none⟩) 1 1 rfl rfl HY.out (by rw [HTK.out]; simp; omega) (HX2.out.alloc _).size ?_; intro v3 w3 hv3 hg3 _; have HV3 := Lib.hid hv3; have HX3 := Lib.hid ((HX2.out.alloc _).more hg3 (fun q e => (HV2.out.block q e).1)); clear hv3 hg3 hc2 HY; have HWW := Lib.hid (HXC2.out w3 o (HWz.out.ext HX3.out) HO.out)) | (at_builtin; refine wpList_append_f64 rfl (.tmp 42) (.tmp 45) rfl wz.heap.size _ (o.take (k + 1) ++ [x]) (o.drop (k + 1)) rfl HV3.out X (i - (k + 1)) (oc - (k + 1)) rfl (by rw [List.length_drop, HO.out]) HWW.out (by rw [List.length_append, HTK.out, List.length_drop, HO.out]; simp; omega) HX3.out.size ?_; intro v4 w4 hv4 hg4 _; have HV4 := Lib.hid hv4; have HX4 := Lib.hid (HX3.out.more hg4 (fun q e => (HV3.out.block q e).1)); clear hv4 hg4) | fail)
            go_roundg g
            case measure => omega
            case rel => exact ⟨i + 1, by have := HIG.out; omega, by go_num, (HX.out.trans HXWz.out).trans HX4.out, Fl.ins o x, by rw [Fl.ins_len, HO.out], HINS.out, by rw [← HSP.out]; exact HV4.out.down (HX.out.trans HXWz.out).size, HNX.out⟩
end Go.Proofs.Ytbgpgdbheajekaa

/-
  What the laws of layer 15 stand on: what the functions of package score do, over any code; and that the law's own awake holds. Conditions: those of ScoreSaid.
-/
namespace Go.Proofs.Ytbgpgdbheajekaa
open Go.RowKit
open Pol (co)
open Fl (K v rung sgn IsNan RndOk rnd sg rq S U IsRate)

/-- A call that hands back a rate of which something is known. -/
def GivesR (P : Nat → Prop) (w : World) (e : Ending) (w' : World) : Prop := ∃ r, e = .returned (.float .f64 r) ∧ r < 18446744073709551616 ∧ P r ∧ Ext w w'
/-- A call that hands back rates in order. -/
def SortR (l : List Nat) (w : World) (e : Ending) (w' : World) : Prop := ∃ B c s, e = .returned (.slice B l.length c) ∧ l.length ≤ c ∧ FRd w' B s ∧ s.length = l.length ∧ s.map K = (Fl.sorted l).map K ∧ Ext w w'
structure ScoreSaid : Prop where
  less : ∀ (a b : Nat) (w : World), a < 18446744073709551616 → b < 18446744073709551616 → Calls Try.prog 12 #[.float .f64 a, .float .f64 b] w (Tells (.bool (decide (K a < K b))) w)
  same : ∀ (a b : Nat) (w : World), a < 18446744073709551616 → b < 18446744073709551616 → Calls Try.prog 14 #[.float .f64 a, .float .f64 b] w (Tells (.bool (decide (K a = K b))) w)
  rate : ∀ (fee : Nat) (n : Int) (w : World), fee < 18446744073709551616 → -9223372036854775808 ≤ n → n < 9223372036854775808 → Calls Try.prog 16 #[.int .u64 (fee : Int), .int .i64 n] w (GivesR (IsRate fee n) w)
  clamp : ∀ (x lo hi : Nat) (w : World), x < 18446744073709551616 → lo < 18446744073709551616 → hi < 18446744073709551616 → Calls Try.prog 18 #[.float .f64 x, .float .f64 lo, .float .f64 hi] w (GivesR (fun r => K r = K (clamp x lo hi)) w)
  round : ∀ (x : Nat) (w : World), x < 18446744073709551616 → Calls Try.prog 10 #[.float .f64 x] w (Tells (RoundV x) w)
  sort : ∀ (l : List Nat) (A : Option Addr) (n c : Nat) (w : World), l.length = n → FRd w A l → n ≤ c → n ≤ 65536 → Calls Try.prog 20 #[.slice A n c] w (SortR l w)
  mid : ∀ (l : List Nat) (A : Option Addr) (n c : Nat) (w : World), l.length = n → FRd w A l → n ≤ c → n ≤ 65536 → Calls Try.prog 22 #[.slice A n c] w (GivesR (fun r => (n = 0 → IsNan r) ∧ (0 < n → K r = K (co (Fl.sorted l) (n / 2)))) w)

theorem K_small {x : Nat} (h : x ≤ 9218868437227405312) : K x = (x : Int) := by
  have hr : rung x = x := by unfold Fl.rung; omega
  have hs : sgn x = false := by unfold Fl.sgn; rw [show x / 9223372036854775808 = 0 by omega]; rfl
  unfold Fl.K
  rw [if_neg (by unfold Fl.IsNan; omega), hr, hs]
  rfl
/-- The place among all tells what a word is worth. -/
theorem K_v {x y : Nat} (h : K x = K y) (hy : ¬ IsNan y) : ¬ IsNan x ∧ v x = v y := by
  have hx : ¬ IsNan x := fun hx => hy (Fl.K_nan.2 (h ▸ Fl.K_nan.1 hx))
  refine ⟨hx, ?_⟩
  unfold Fl.K at h
  rw [if_neg hx, if_neg hy] at h
  unfold Fl.v
  cases hsx : sgn x <;> cases hsy : sgn y <;> rw [hsx, hsy] at h <;> simp at h ⊢ <;> first | (rw [show rung x = rung y by omega]; done) | omega
theorem nan_K {x y : Nat} (h : K x = K y) : IsNan x ↔ IsNan y := by rw [Fl.K_nan, Fl.K_nan, h]
theorem rate32 : Fl.rate 3 2 = some 4609434218613702656 := by decide +kernel
theorem is15 {r : Nat} (h : IsRate 3 2 r) : (FloatKind.f64.format.order r 4609434218613702656 == some Ordering.eq) = true := by
  unfold Fl.IsRate at h
  rw [rate32] at h
  have hn : ¬ IsNan 4609434218613702656 := Fl.nan_fin (by unfold Fl.rung; omega)
  obtain ⟨h1, h2⟩ := K_v h hn
  rw [Fl.eq_is]
  exact decide_eq_true ⟨h1, hn, h2⟩
theorem rq_of {p : Nat} (hp : U = 4503599627370496 * p) (h : 0 < p) : rq (11258999068426240 * p) = 2 := by
  have e : 11258999068426240 * p = 2 * U + 2251799813685248 * p := by rw [hp]; omega
  have e1 : (11258999068426240 * p) / U = 2 := by
    rw [e]
    exact Nat.div_eq_of_lt_le (by omega) (by rw [hp]; omega)
  have e2 : (11258999068426240 * p) % U = 2251799813685248 * p := by
    have := Nat.div_add_mod (11258999068426240 * p) U
    rw [e1] at this
    omega
  unfold Fl.rq
  rw [e1, e2, if_pos (.inr ⟨by rw [hp]; omega, rfl⟩)]
theorem S_25 (n : Nat) : ∃ p, 0 < p ∧ Fl.S ((n + 1) * 4503599627370496 + 5629499534213120) = 11258999068426240 * p ∧ Fl.S (n * 4503599627370496 + 4503599627370496) = 4503599627370496 * p := by
  refine ⟨2 ^ n, Nat.two_pow_pos _, ?_, ?_⟩
  · rw [Fl.S_at (.inl (by omega)) (by omega), Nat.pow_succ]
    generalize 2 ^ n = p
    omega
  · exact Fl.S_at (.inl (by omega)) (by omega)
theorem two_half : RoundV 4612811918334230528 = .tuple #[.int .i64 2, .bool true] := by
  have hr : rung 4612811918334230528 = 4612811918334230528 := by unfold Fl.rung; omega
  have hs : sgn 4612811918334230528 = false := by unfold Fl.sgn; rw [show 4612811918334230528 / 9223372036854775808 = 0 by omega]; rfl
  have hk : RndOk 4612811918334230528 := by unfold Fl.RndOk; omega
  unfold RoundV
  rw [decide_eq_true hk, Fl.rnd_ok hk, hr]
  obtain ⟨p, hp, h⟩ := S_25 1022
  rw [show (1022 + 1) * 4503599627370496 + 5629499534213120 = 4612811918334230528 by omega, show 1022 * 4503599627370496 + 4503599627370496 = 4607182418800017408 by omega, Fl.S_1] at h
  rw [h.1, rq_of h.2 hp]
  unfold Fl.sg
  rw [hs]
  rfl
theorem awake15 (C : ScoreSaid) (w : World) : Calls Try.prog 9 #[] w (Holds w) := by
  have HR := Lib.hid (fun u => C.round 4612811918334230528 u (by omega))
  rw [two_half] at HR
  have k1 := K_small (x := 4607182418800017408) (by omega)
  have k2 := K_small (x := 4611686018427387904) (by omega)
  have H1 := Lib.hid (fun u => C.less 4607182418800017408 4611686018427387904 u (by omega) (by omega))
  rw [k1, k2, decide_eq_true (by omega)] at H1
  have H2 := Lib.hid (fun u => C.less 4611686018427387904 4607182418800017408 u (by omega) (by omega))
  rw [k1, k2, decide_eq_false (by omega)] at H2
  have H3 := Lib.hid (fun u => C.rate 3 2 u (by omega) (by omega) (by omega))
  have H4 := Lib.hid (fun u => C.same 4607182418800017408 4611686018427387904 u (by omega) (by omega))
  rw [k1, k2, decide_eq_false (by omega)] at H4
  clear k1 k2
  go_enter Try.func9, Try.ntmps9
  go_wp2_with fail
  refine (HR.out w).mono ?_
  rintro e w1 ⟨rfl, hx1⟩
  have HX1 := Lib.hid hx1
  clear hx1
  go_wp2_with fail
  refine (H1.out w1).mono ?_
  rintro e w2 ⟨rfl, hx2⟩
  have HX2 := Lib.hid (HX1.out.trans hx2)
  clear hx2
  go_wp2_with fail
  refine (H2.out w2).mono ?_
  rintro e w3 ⟨rfl, hx3⟩
  have HX3 := Lib.hid (HX2.out.trans hx3)
  clear hx3
  go_wp2_with fail
  refine (H3.out w3).mono ?_
  rintro e w4 ⟨r, rfl, _, hq, hx4⟩
  have hq2 := is15 hq
  have HX4 := Lib.hid (HX3.out.trans hx4)
  clear hx4 hq
  go_wp2_with fail
  refine (H4.out w4).mono ?_
  rintro e w5 ⟨rfl, hx5⟩
  have HX5 := Lib.hid (HX4.out.trans hx5)
  clear hx5
  go_wp2
  go_ret
  exact ⟨rfl, HX5.out⟩
end Go.Proofs.Ytbgpgdbheajekaa

/-
  ScoreRounds, walked. Conditions: those of ScoreSaid.
-/
namespace Go.Proofs.Ytbgpgdbheajekaa
open Go.RowKit
open Pol (co)
open Fl (K v rung sgn IsNan RndOk rnd sg rq S U IsRate)

/-- What is left of a number by the nearest whole one. -/
theorem left_rnd {x : Nat} (h : RndOk x) : ∃ d, floatBits .sub .f64 x (floatOfInt .f64 (rnd x)) = some d ∧ ¬ IsNan d ∧ 2 * v d ≤ (U : Int) ∧ -(U : Int) ≤ 2 * v d ∧ ((2 * v d = (U : Int) ∨ 2 * v d = -(U : Int)) → Int.tmod (rnd x) 2 = 0 ∧ rnd x % 2 = 0) ∧ -9007199254740992 ≤ rnd x ∧ rnd x ≤ 9007199254740992 := by
  have hb := Fl.div_bound h.le
  have hn := Fl.rq_near (S (rung x))
  obtain ⟨h1, h2, h3⟩ := Fl.rq_dist (S (rung x))
  have hqb : rq (S (rung x)) ≤ 9007199254740992 := by
    rcases hn with e | ⟨e, h0, _⟩
    · rw [e]; exact hb.1
    · rw [e]; exact hb.2 h0
  obtain ⟨d, d1, d2, d3, _⟩ := Fl.left_is h hn
  rw [Fl.rnd_ok h]
  refine ⟨d, d1, d3, ?_⟩
  rw [d2, Fl.sg_v]
  have hev : rq (S (rung x)) % 2 = 0 → Int.tmod (sg x (rq (S (rung x)))) 2 = 0 ∧ sg x (rq (S (rung x))) % 2 = 0 := fun e => by
    have t := tmod_two (rq (S (rung x)))
    unfold Fl.sg
    split
    · exact ⟨by rw [t.2, e]; rfl, by omega⟩
    · exact ⟨by rw [t.1, e]; rfl, by omega⟩
  generalize rq (S (rung x)) = q at *
  generalize S (rung x) = s at *
  have hqU : ((q * U : Nat) : Int) = (q : Int) * (U : Int) := Int.natCast_mul ..
  rw [hqU] at h1 h2 h3
  clear hb hn d1 d2 hqU
  generalize hz : sg x q = z at *
  have hzU : z * (U : Int) = if sgn x then -((q : Int) * (U : Int)) else (q : Int) * (U : Int) := by
    rw [← hz]
    unfold Fl.sg
    split
    · rw [Int.neg_mul]
    · rfl
  rw [hzU]
  generalize (q : Int) * (U : Int) = qu at *
  unfold Fl.sg at hz ⊢
  cases sgn x <;> simp only [Bool.false_eq_true, if_false, if_true] at hz ⊢
  · exact ⟨by omega, by omega, fun e => hev (h3 (by omega)), by omega, by omega⟩
  · exact ⟨by omega, by omega, fun e => hev (h3 (by omega)), by omega, by omega⟩
theorem leq_is (x y : Nat) (hx : ¬ IsNan x) (hy : ¬ IsNan y) : (FloatKind.f64.format.order x y == some Ordering.lt) = decide (v x < v y) ∧ (FloatKind.f64.format.order x y == some Ordering.eq) = decide (v x = v y) ∧ (FloatKind.f64.format.order x y == some Ordering.gt) = decide (v y < v x) ∧ (FloatKind.f64.format.order x y != some Ordering.eq) = !decide (v x = v y) := by
  rw [Fl.lt_is, Fl.gt_is, Fl.ne_is, Fl.eq_is]
  simp only [hx, hy, not_false_eq_true, true_and, and_self]
set_option maxHeartbeats 3200000 in
theorem rounds15_walk (C : ScoreSaid) (x : Nat) (m : Int) (w : World) (hx0 : x < 18446744073709551616) (hm1 : -2147483648 ≤ m) (hm2 : m ≤ 2147483647) :
    Calls Try.prog 7 #[.float .f64 x, .int .i32 m] w (Holds w) := by
  obtain ⟨_, _, hneg⟩ := Fl.neg_is hx0
  obtain ⟨hr1, hr2⟩ := Fl.rnd_neg hx0
  obtain ⟨hi1, hi2⟩ := Fl.rnd_int (n := m) (by omega)
  have hw := Fl.ofInt_exact (n := m) (by omega)
  have eN := fun W => run_neg_float (P := Try.prog) W .f64 x
  have c1 := fun W n => run_convert_int_float (P := Try.prog) W 21 22 .i32 .f64 n (by kernel_rfl) Try.underlying22
  have c2 := fun W n => run_convert_int_float (P := Try.prog) W 3 22 .i64 .f64 n (by kernel_rfl) Try.underlying22
  have hfb : floatOfInt .f64 m < 18446744073709551616 := by have := floatOfInt_wf .f64 m; simpa [Lit.wf] using this
  have HR1 := Lib.hid (fun u => C.round x u hx0)
  have HR2 := Lib.hid (fun u => C.round (Op.negFloat .f64 x) u hneg)
  have HR3 := Lib.hid (fun u => C.round (floatOfInt .f64 m) u hfb)
  unfold RoundV at HR1 HR2 HR3
  rw [hr1, show decide (RndOk (Op.negFloat .f64 x)) = decide (RndOk x) from by by_cases h : RndOk x; rw [decide_eq_true h, decide_eq_true (hr2.2 h)]; rw [decide_eq_false h, decide_eq_false (fun hh => h (hr2.1 hh))]] at HR2
  rw [hi2, decide_eq_true hi1] at HR3
  have w1 : IntKind.i64.wrap m = m := by rw [IntKind.wrap_i64]; omega
  clear hneg hr1 hr2 hi1 hi2 hw hfb
  generalize Op.negFloat .f64 x = nx at *
  by_cases hk : RndOk x
  · rw [decide_eq_true hk] at HR1 HR2
    obtain ⟨d, hd, hdn, hd1, hd2, hd3, hz1, hz2⟩ := left_rnd hk
    have hs := fun W t => run_float_arith (P := Try.prog) W .sub t .f64 _ _ _ hd
    obtain ⟨f1, f2, f3, f4⟩ := leq_is d 4602678819172646912 hdn chalf.2
    obtain ⟨g1, g2, g3, g4⟩ := leq_is d 13826050856027422720 hdn nhalf.2
    have ch := chalf.1
    have nh := nhalf.1
    have hU := Fl.U_pos
    generalize rnd x = z at *
    clear hd hk hdn
    by_cases q1 : 2 * v d = (U : Int)
    · rw [decide_eq_false (show ¬ (v d < v 4602678819172646912) by omega)] at f1
      rw [decide_eq_true (show (v d = v 4602678819172646912) by omega)] at f2
      rw [decide_eq_false (show ¬ (v 4602678819172646912 < v d) by omega)] at f3
      rw [decide_eq_true (show (v d = v 4602678819172646912) by omega), Bool.not_true] at f4
      rw [decide_eq_false (show ¬ (v d < v 13826050856027422720) by omega)] at g1
      rw [decide_eq_false (show ¬ (v d = v 13826050856027422720) by omega)] at g2
      rw [decide_eq_true (show (v 13826050856027422720 < v d) by omega)] at g3
      rw [decide_eq_false (show ¬ (v d = v 13826050856027422720) by omega), Bool.not_false] at g4
      obtain ⟨m1, m2⟩ := hd3 (by omega)
      have m3 : (Int.tmod z 2 == 0) = true := by rw [m1]; rfl
      have m4 : (z % 2 == 0) = true := by rw [m2]; rfl
      clear m1 m2
      clear hd1 hd2 hd3 ch nh hU
      go_enter Try.func7, Try.ntmps7
      go_wp2_with fail
      refine (awake15 C w).mono ?_
      rintro e w1 ⟨rfl, hx⟩
      have HX1 := Lib.hid hx
      clear hx
      go_wp2_with fail
      refine (HR1.out w1).mono ?_
      rintro e w2 ⟨rfl, hx⟩
      have HX2 := Lib.hid (HX1.out.trans hx)
      clear hx
      go_wp2_with fail
      refine (HR2.out w2).mono ?_
      rintro e w3 ⟨rfl, hx⟩
      have HX3 := Lib.hid (HX2.out.trans hx)
      clear hx
      go_wp2_with fail
      refine (HR3.out w3).mono ?_
      rintro e w4 ⟨rfl, hx⟩
      have HX4 := Lib.hid (HX3.out.trans hx)
      clear hx
      go_wp2
      go_ret
      exact ⟨rfl, HX4.out⟩
    by_cases q2 : 2 * v d = -(U : Int)
    · rw [decide_eq_true (show (v d < v 4602678819172646912) by omega)] at f1
      rw [decide_eq_false (show ¬ (v d = v 4602678819172646912) by omega)] at f2
      rw [decide_eq_false (show ¬ (v 4602678819172646912 < v d) by omega)] at f3
      rw [decide_eq_false (show ¬ (v d = v 4602678819172646912) by omega), Bool.not_false] at f4
      rw [decide_eq_false (show ¬ (v d < v 13826050856027422720) by omega)] at g1
      rw [decide_eq_true (show (v d = v 13826050856027422720) by omega)] at g2
      rw [decide_eq_false (show ¬ (v 13826050856027422720 < v d) by omega)] at g3
      rw [decide_eq_true (show (v d = v 13826050856027422720) by omega), Bool.not_true] at g4
      obtain ⟨m1, m2⟩ := hd3 (by omega)
      have m3 : (Int.tmod z 2 == 0) = true := by rw [m1]; rfl
      have m4 : (z % 2 == 0) = true := by rw [m2]; rfl
      clear m1 m2
      clear hd1 hd2 hd3 ch nh hU
      go_enter Try.func7, Try.ntmps7
      go_wp2_with fail
      refine (awake15 C w).mono ?_
      rintro e w1 ⟨rfl, hx⟩
      have HX1 := Lib.hid hx
      clear hx
      go_wp2_with fail
      refine (HR1.out w1).mono ?_
      rintro e w2 ⟨rfl, hx⟩
      have HX2 := Lib.hid (HX1.out.trans hx)
      clear hx
      go_wp2_with fail
      refine (HR2.out w2).mono ?_
      rintro e w3 ⟨rfl, hx⟩
      have HX3 := Lib.hid (HX2.out.trans hx)
      clear hx
      go_wp2_with fail
      refine (HR3.out w3).mono ?_
      rintro e w4 ⟨rfl, hx⟩
      have HX4 := Lib.hid (HX3.out.trans hx)
      clear hx
      go_wp2
      go_ret
      exact ⟨rfl, HX4.out⟩
    rw [decide_eq_true (show (v d < v 4602678819172646912) by omega)] at f1
    rw [decide_eq_false (show ¬ (v d = v 4602678819172646912) by omega)] at f2
    rw [decide_eq_false (show ¬ (v 4602678819172646912 < v d) by omega)] at f3
    rw [decide_eq_false (show ¬ (v d = v 4602678819172646912) by omega), Bool.not_false] at f4
    rw [decide_eq_false (show ¬ (v d < v 13826050856027422720) by omega)] at g1
    rw [decide_eq_false (show ¬ (v d = v 13826050856027422720) by omega)] at g2
    rw [decide_eq_true (show (v 13826050856027422720 < v d) by omega)] at g3
    rw [decide_eq_false (show ¬ (v d = v 13826050856027422720) by omega), Bool.not_false] at g4
    clear hd1 hd2 hd3 ch nh hU
    go_enter Try.func7, Try.ntmps7
    go_wp2_with fail
    refine (awake15 C w).mono ?_
    rintro e w1 ⟨rfl, hx⟩
    have HX1 := Lib.hid hx
    clear hx
    go_wp2_with fail
    refine (HR1.out w1).mono ?_
    rintro e w2 ⟨rfl, hx⟩
    have HX2 := Lib.hid (HX1.out.trans hx)
    clear hx
    go_wp2_with fail
    refine (HR2.out w2).mono ?_
    rintro e w3 ⟨rfl, hx⟩
    have HX3 := Lib.hid (HX2.out.trans hx)
    clear hx
    go_wp2_with fail
    refine (HR3.out w3).mono ?_
    rintro e w4 ⟨rfl, hx⟩
    have HX4 := Lib.hid (HX3.out.trans hx)
    clear hx
    go_wp2
    go_ret
    exact ⟨rfl, HX4.out⟩
  · rw [decide_eq_false hk, Fl.rnd_no hk] at HR1 HR2
    have n53n := n53.2
    have c53n := c53.2.2
    by_cases hn : IsNan x
    · have f1 := Fl.gt_is x 14069245235905429504
      have f2 := Fl.eq_is x 14069245235905429504
      rw [decide_eq_false (fun h => h.1 hn)] at f1 f2
      clear hk hn
      go_enter Try.func7, Try.ntmps7
      go_wp2_with fail
      refine (awake15 C w).mono ?_
      rintro e w1 ⟨rfl, hx⟩
      have HX1 := Lib.hid hx
      clear hx
      go_wp2_with fail
      refine (HR1.out w1).mono ?_
      rintro e w2 ⟨rfl, hx⟩
      have HX2 := Lib.hid (HX1.out.trans hx)
      clear hx
      go_wp2_with fail
      refine (HR2.out w2).mono ?_
      rintro e w3 ⟨rfl, hx⟩
      have HX3 := Lib.hid (HX2.out.trans hx)
      clear hx
      go_wp2_with fail
      refine (HR3.out w3).mono ?_
      rintro e w4 ⟨rfl, hx⟩
      have HX4 := Lib.hid (HX3.out.trans hx)
      clear hx
      go_wp2
      go_ret
      exact ⟨rfl, HX4.out⟩
    · obtain ⟨f1, f2, f3, f4⟩ := leq_is x 14069245235905429504 hn n53n
      obtain ⟨g1, g2, g3, g4⟩ := leq_is x 4845873199050653696 hn c53n
      have hkk := fun h => hk (ok_lt.2 h)
      by_cases q1 : v x < v 14069245235905429504
      · rw [decide_eq_false (show ¬ v 14069245235905429504 < v x by omega)] at f3
        rw [decide_eq_false (show ¬ v x = v 14069245235905429504 by omega)] at f2
        clear f1 f4 g1 g2 g3 g4 hkk hk hn q1
        go_enter Try.func7, Try.ntmps7
        go_wp2_with fail
        refine (awake15 C w).mono ?_
        rintro e w1 ⟨rfl, hx⟩
        have HX1 := Lib.hid hx
        clear hx
        go_wp2_with fail
        refine (HR1.out w1).mono ?_
        rintro e w2 ⟨rfl, hx⟩
        have HX2 := Lib.hid (HX1.out.trans hx)
        clear hx
        go_wp2_with fail
        refine (HR2.out w2).mono ?_
        rintro e w3 ⟨rfl, hx⟩
        have HX3 := Lib.hid (HX2.out.trans hx)
        clear hx
        go_wp2_with fail
        refine (HR3.out w3).mono ?_
        rintro e w4 ⟨rfl, hx⟩
        have HX4 := Lib.hid (HX3.out.trans hx)
        clear hx
        go_wp2
        go_ret
        exact ⟨rfl, HX4.out⟩
      · have q2 : v 4845873199050653696 < v x := Decidable.byContradiction fun h => hkk ⟨h, q1⟩
        rw [decide_eq_false (show ¬ v x < v 4845873199050653696 by omega)] at g1
        rw [decide_eq_false (show ¬ v x = v 4845873199050653696 by omega)] at g2
        clear hkk hk hn f1 f4 g3 g4 q2
        by_cases q3 : v x = v 14069245235905429504
        · rw [decide_eq_true q3] at f2
          rw [decide_eq_false (show ¬ v 14069245235905429504 < v x by omega)] at f3
          clear q1 q3
          go_enter Try.func7, Try.ntmps7
          go_wp2_with fail
          refine (awake15 C w).mono ?_
          rintro e w1 ⟨rfl, hx⟩
          have HX1 := Lib.hid hx
          clear hx
          go_wp2_with fail
          refine (HR1.out w1).mono ?_
          rintro e w2 ⟨rfl, hx⟩
          have HX2 := Lib.hid (HX1.out.trans hx)
          clear hx
          go_wp2_with fail
          refine (HR2.out w2).mono ?_
          rintro e w3 ⟨rfl, hx⟩
          have HX3 := Lib.hid (HX2.out.trans hx)
          clear hx
          go_wp2_with fail
          refine (HR3.out w3).mono ?_
          rintro e w4 ⟨rfl, hx⟩
          have HX4 := Lib.hid (HX3.out.trans hx)
          clear hx
          go_wp2
          go_ret
          exact ⟨rfl, HX4.out⟩
        · rw [decide_eq_false q3] at f2
          rw [decide_eq_true (show v 14069245235905429504 < v x by omega)] at f3
          clear q1 q3
          go_enter Try.func7, Try.ntmps7
          go_wp2_with fail
          refine (awake15 C w).mono ?_
          rintro e w1 ⟨rfl, hx⟩
          have HX1 := Lib.hid hx
          clear hx
          go_wp2_with fail
          refine (HR1.out w1).mono ?_
          rintro e w2 ⟨rfl, hx⟩
          have HX2 := Lib.hid (HX1.out.trans hx)
          clear hx
          go_wp2_with fail
          refine (HR2.out w2).mono ?_
          rintro e w3 ⟨rfl, hx⟩
          have HX3 := Lib.hid (HX2.out.trans hx)
          clear hx
          go_wp2_with fail
          refine (HR3.out w3).mono ?_
          rintro e w4 ⟨rfl, hx⟩
          have HX4 := Lib.hid (HX3.out.trans hx)
          clear hx
          go_wp2
          go_ret
          exact ⟨rfl, HX4.out⟩
end Go.Proofs.Ytbgpgdbheajekaa

/-
  The code's own order of rates. Conditions: none.
-/
namespace Go.Proofs.Ytbgpgdbheajekaa
open Go.RowKit
open Fl (K v rung sgn IsNan RndOk rnd sg rq S U)

theorem sc_nan (x : Nat) (w : World) : Calls Try.prog 25 #[.float .f64 x] w (Hands (.bool (decide (IsNan x))) w) := by
  have h := Fl.nan_is x
  generalize decide (IsNan x) = b at *
  go_enter Try.func25, Try.ntmps25
  go_wp2
  go_ret
  exact ⟨rfl, 0, rfl⟩
theorem inf_inf (s t : Bool) : (FloatKind.f64.format.order (Ieee.double.word s 9218868437227405312) (Ieee.double.word t 9218868437227405312) == some Ordering.lt) = (s && !t) := by
  rw [Fl.lt_is, Fl.v_word _ (by omega), Fl.v_word _ (by omega)]
  have hp : 0 < Fl.S 9218868437227405312 := Fl.S_pos.2 (by omega)
  have hs := Fl.nan_word s (r := 9218868437227405312) (by omega)
  have ht := Fl.nan_word t (r := 9218868437227405312) (by omega)
  generalize Fl.S 9218868437227405312 = s0 at *
  cases s <;> cases t
  · rw [decide_eq_false (fun h => by have := h.2.2; simp at this)]; rfl
  · rw [decide_eq_false (fun h => by have := h.2.2; simp at this; omega)]; rfl
  · rw [decide_eq_true ⟨hs, ht, by simp; omega⟩]; rfl
  · rw [decide_eq_false (fun h => by have := h.2.2; simp at this)]; rfl
set_option maxHeartbeats 800000 in
theorem sc_less (a b : Nat) (w : World) : Calls Try.prog 12 #[.float .f64 a, .float .f64 b] w (Hands (.bool (decide (K a < K b))) w) := by
  have HA := Lib.hid (sc_nan a)
  have HB := Lib.hid (sc_nan b)
  by_cases ha : IsNan a
  · rw [less_nan ha]
    rw [decide_eq_true ha] at HA
    clear HB
    go_enter Try.func12, Try.ntmps12
    go_wp2_with fail
    refine (HA.out _).mono ?_
    rintro e w1 ⟨rfl, n1, rfl⟩
    go_wp2_with fail
    refine (HA.out _).mono ?_
    rintro e w1 ⟨rfl, n2, rfl⟩
    go_wp2
    go_ret
    exact ⟨rfl, _, rfl⟩
  rw [decide_eq_false ha] at HA
  by_cases hb : IsNan b
  · rw [less_nan' ha hb]
    rw [decide_eq_true hb] at HB
    go_enter Try.func12, Try.ntmps12
    go_wp2_with fail
    refine (HA.out _).mono ?_
    rintro e w1 ⟨rfl, n1, rfl⟩
    go_wp2_with fail
    refine (HB.out _).mono ?_
    rintro e w1 ⟨rfl, n2, rfl⟩
    go_wp2_with fail
    refine (HA.out _).mono ?_
    rintro e w1 ⟨rfl, n3, rfl⟩
    go_wp2
    go_ret
    exact ⟨rfl, _, rfl⟩
  rw [decide_eq_false hb] at HB
  have za := is_zero a
  have zb := is_zero b
  by_cases h0 : rung a = 0 ∧ rung b = 0
  · rw [K_zeros h0.1 h0.2]
    rw [decide_eq_true h0.1] at za
    rw [decide_eq_true h0.2] at zb
    have q1 := fun W t => run_float_arith (P := Try.prog) W .quo t .f64 4607182418800017408 a _ (one_by_zero h0.1)
    have q2 := fun W t => run_float_arith (P := Try.prog) W .quo t .f64 4607182418800017408 b _ (one_by_zero h0.2)
    have hl := inf_inf (sgn a) (sgn b)
    clear ha hb h0
    generalize (sgn a && !sgn b) = r at *
    generalize Ieee.double.word (sgn a) 9218868437227405312 = x at *
    generalize Ieee.double.word (sgn b) 9218868437227405312 = y at *
    go_enter Try.func12, Try.ntmps12
    go_wp2_with fail
    refine (HA.out _).mono ?_
    rintro e w1 ⟨rfl, n1, rfl⟩
    go_wp2_with fail
    refine (HB.out _).mono ?_
    rintro e w1 ⟨rfl, n2, rfl⟩
    go_wp2
    go_ret
    exact ⟨rfl, _, rfl⟩
  · have hl := less_num ha hb h0
    generalize decide (K a < K b) = r at *
    clear ha hb
    by_cases h1 : rung a = 0
    · rw [decide_eq_true h1] at za
      rw [decide_eq_false (fun h => h0 ⟨h1, h⟩)] at zb
      clear h0
      go_enter Try.func12, Try.ntmps12
      go_wp2_with fail
      refine (HA.out _).mono ?_
      rintro e w1 ⟨rfl, n1, rfl⟩
      go_wp2_with fail
      refine (HB.out _).mono ?_
      rintro e w1 ⟨rfl, n2, rfl⟩
      go_wp2
      go_ret
      exact ⟨rfl, _, rfl⟩
    · rw [decide_eq_false h1] at za
      clear h0
      go_enter Try.func12, Try.ntmps12
      go_wp2_with fail
      refine (HA.out _).mono ?_
      rintro e w1 ⟨rfl, n1, rfl⟩
      go_wp2_with fail
      refine (HB.out _).mono ?_
      rintro e w1 ⟨rfl, n2, rfl⟩
      go_wp2
      go_ret
      exact ⟨rfl, _, rfl⟩
set_option maxHeartbeats 800000 in
theorem sc_compare_all (a b : Nat) : ∃ z : Int, (z < 0 ↔ K a < K b) ∧ (z == 0) = decide (K a = K b) ∧ ∀ w, Calls Try.prog 27 #[.float .f64 a, .float .f64 b] w (Hands (.int .i64 z) w) := by
  have HA := Lib.hid (sc_less a b)
  have HB := Lib.hid (sc_less b a)
  by_cases h1 : K a < K b
  · refine ⟨-1, ⟨fun _ => h1, fun _ => by omega⟩, by rw [decide_eq_false (show ¬ K a = K b by omega)]; rfl, fun w => ?_⟩
    rw [decide_eq_true h1] at HA
    go_enter Try.func27, Try.ntmps27
    go_wp2_with fail
    refine (HA.out _).mono ?_
    rintro e w1 ⟨rfl, n1, rfl⟩
    go_wp2
    go_ret
    exact ⟨rfl, _, rfl⟩
  · rw [decide_eq_false h1] at HA
    by_cases h2 : K b < K a
    · refine ⟨1, ⟨fun h => absurd h (by omega), fun h => absurd h h1⟩, by rw [decide_eq_false (show ¬ K a = K b by omega)]; rfl, fun w => ?_⟩
      rw [decide_eq_true h2] at HB
      go_enter Try.func27, Try.ntmps27
      go_wp2_with fail
      refine (HA.out _).mono ?_
      rintro e w1 ⟨rfl, n1, rfl⟩
      go_wp2_with fail
      refine (HB.out _).mono ?_
      rintro e w1 ⟨rfl, n2, rfl⟩
      go_wp2
      go_ret
      exact ⟨rfl, _, rfl⟩
    · refine ⟨0, ⟨fun h => absurd h (by omega), fun h => absurd h h1⟩, by rw [decide_eq_true (show K a = K b by omega)]; rfl, fun w => ?_⟩
      rw [decide_eq_false h2] at HB
      go_enter Try.func27, Try.ntmps27
      go_wp2_with fail
      refine (HA.out _).mono ?_
      rintro e w1 ⟨rfl, n1, rfl⟩
      go_wp2_with fail
      refine (HB.out _).mono ?_
      rintro e w1 ⟨rfl, n2, rfl⟩
      go_wp2
      go_ret
      exact ⟨rfl, _, rfl⟩
theorem sc_compare (a b : Nat) : ∃ z : Int, (z < 0 ↔ K a < K b) ∧ ∀ w, Calls Try.prog 27 #[.float .f64 a, .float .f64 b] w (Hands (.int .i64 z) w) := by
  obtain ⟨z, h, _, hc⟩ := sc_compare_all a b
  exact ⟨z, h, hc⟩
theorem sc_same (a b : Nat) (w : World) : Calls Try.prog 14 #[.float .f64 a, .float .f64 b] w (Hands (.bool (decide (K a = K b))) w) := by
  obtain ⟨z, _, hz, hc⟩ := sc_compare_all a b
  have HC := Lib.hid hc
  have h1 : (z == 0) = decide (K a = K b) := hz
  have h2 : decide (z = 0) = decide (K a = K b) := by rw [← h1]; rfl
  generalize decide (K a = K b) = r at *
  clear hz hc
  go_enter Try.func14, Try.ntmps14
  go_wp2_with fail
  refine (HC.out _).mono ?_
  rintro e w1 ⟨rfl, n1, rfl⟩
  go_wp2
  go_ret
  exact ⟨rfl, _, rfl⟩
theorem sc_clamp (x lo hi : Nat) (w : World) : Calls Try.prog 18 #[.float .f64 x, .float .f64 lo, .float .f64 hi] w (Hands (.float .f64 (clamp x lo hi)) w) := by
  have HA := Lib.hid (sc_nan x)
  have HB := Lib.hid (sc_less x lo)
  have HC := Lib.hid (sc_less hi x)
  unfold clamp
  by_cases h1 : IsNan x
  · rw [if_pos (.inl h1)]
    rw [decide_eq_true h1] at HA
    clear HB HC
    go_enter Try.func18, Try.ntmps18
    go_wp2_with fail
    refine (HA.out _).mono ?_
    rintro e w1 ⟨rfl, n1, rfl⟩
    go_wp2
    go_ret
    exact ⟨rfl, _, rfl⟩
  · rw [decide_eq_false h1] at HA
    by_cases h2 : K x < K lo
    · rw [if_pos (.inr h2)]
      rw [decide_eq_true h2] at HB
      clear HC
      go_enter Try.func18, Try.ntmps18
      go_wp2_with fail
      refine (HA.out _).mono ?_
      rintro e w1 ⟨rfl, n1, rfl⟩
      go_wp2_with fail
      refine (HB.out _).mono ?_
      rintro e w1 ⟨rfl, n2, rfl⟩
      go_wp2
      go_ret
      exact ⟨rfl, _, rfl⟩
    · rw [if_neg (by rintro (h | h); exact h1 h; exact h2 h)]
      rw [decide_eq_false h2] at HB
      by_cases h3 : K hi < K x
      · rw [if_pos h3]
        rw [decide_eq_true h3] at HC
        go_enter Try.func18, Try.ntmps18
        go_wp2_with fail
        refine (HA.out _).mono ?_
        rintro e w1 ⟨rfl, n1, rfl⟩
        go_wp2_with fail
        refine (HB.out _).mono ?_
        rintro e w1 ⟨rfl, n2, rfl⟩
        go_wp2_with fail
        refine (HC.out _).mono ?_
        rintro e w1 ⟨rfl, n3, rfl⟩
        go_wp2
        go_ret
        exact ⟨rfl, _, rfl⟩
      · rw [if_neg h3]
        rw [decide_eq_false h3] at HC
        go_enter Try.func18, Try.ntmps18
        go_wp2_with fail
        refine (HA.out _).mono ?_
        rintro e w1 ⟨rfl, n1, rfl⟩
        go_wp2_with fail
        refine (HB.out _).mono ?_
        rintro e w1 ⟨rfl, n2, rfl⟩
        go_wp2_with fail
        refine (HC.out _).mono ?_
        rintro e w1 ⟨rfl, n3, rfl⟩
        go_wp2
        go_ret
        exact ⟨rfl, _, rfl⟩
end Go.Proofs.Ytbgpgdbheajekaa

/-
  The code's own Rate and Round. Conditions: none.
-/
namespace Go.Proofs.Ytbgpgdbheajekaa
open Go.RowKit
open Fl (K v rung sgn IsNan RndOk rnd sg rq S U)

theorem sc_rate (fee : Nat) (n : Int) (w : World) : Calls Try.prog 16 #[.int .u64 (fee : Int), .int .i64 n] w (RateR fee n w) := by
  have c1 := fun W n => run_convert_int_float (P := Try.prog) W 23 22 .u64 .f64 n (by kernel_rfl) Try.underlying22
  have c2 := fun W n => run_convert_int_float (P := Try.prog) W 3 22 .i64 .f64 n (by kernel_rfl) Try.underlying22
  obtain ⟨f, m, h1, h2⟩ := quo_any (floatOfInt .f64 (fee : Int)) (floatOfInt .f64 n)
  have h1' := h1 Try.prog
  have H2 := Lib.hid (show ∀ w, f w < 18446744073709551616 ∧ Fl.IsRate fee n (f w) from h2)
  clear h1 h2
  go_enter Try.func16, Try.ntmps16
  go_wp2
  go_ret
  exact ⟨_, m, rfl, (H2.out _).1, (H2.out _).2, rfl⟩
theorem le_is {x y : Nat} (hx : ¬ IsNan x) (hy : ¬ IsNan y) : (FloatKind.f64.format.order x y == some Ordering.lt || FloatKind.f64.format.order x y == some Ordering.eq) = decide (v x ≤ v y) := by
  rw [Fl.lt_is, Fl.eq_is]
  rcases Int.lt_trichotomy (v x) (v y) with h | h | h
  · rw [decide_eq_true ⟨hx, hy, h⟩, decide_eq_true (show v x ≤ v y by omega)]; rfl
  · rw [decide_eq_true (show ¬ IsNan x ∧ ¬ IsNan y ∧ v x = v y from ⟨hx, hy, h⟩), decide_eq_true (show v x ≤ v y by omega), Bool.or_true]
  · rw [decide_eq_false (fun hh => by have := hh.2.2; omega), decide_eq_false (fun hh => by have := hh.2.2; omega), decide_eq_false (show ¬ v x ≤ v y by omega)]; rfl
theorem le_nan {x y : Nat} (h : IsNan x ∨ IsNan y) : (FloatKind.f64.format.order x y == some Ordering.lt || FloatKind.f64.format.order x y == some Ordering.eq) = false := by
  rw [Fl.lt_is, Fl.eq_is, decide_eq_false (fun hh => by rcases h with h | h; exact hh.1 h; exact hh.2.1 h), decide_eq_false (fun hh => by rcases h with h | h; exact hh.1 h; exact hh.2.1 h)]
  rfl
set_option maxHeartbeats 1600000 in
theorem sc_round (x : Nat) (w : World) : Calls Try.prog 10 #[.float .f64 x] w (Hands (RoundV x) w) := by
  have c1 := fun W n => run_convert_int_float (P := Try.prog) W 3 22 .i64 .f64 n (by kernel_rfl) Try.underlying22
  unfold RoundV
  by_cases hk : RndOk x
  · rw [decide_eq_true hk, Fl.rnd_ok hk]
    have hn := Fl.nan_fin hk.fin
    have g1 := (le_is n53.2 hn).trans (decide_eq_true (Int.not_lt.1 (ok_lt.1 hk).2))
    have g2 := (le_is hn c53.2.2).trans (decide_eq_true (Int.not_lt.1 (ok_lt.1 hk).1))
    obtain ⟨q, t, d, hq, ht, hq1, hq2, ht1, hd, hd1, hd2⟩ := trunc_left hk
    have c2 := fun W => run_convert_float_int (P := Try.prog) W 22 3 .f64 .i64 x _ (by kernel_rfl) Try.underlying3 ht1
    have hs := fun W t => run_float_arith (P := Try.prog) W .sub t .f64 _ _ _ hd
    have hr : rq (S (rung x)) = if 2 * t < U ∨ (2 * t = U ∧ q % 2 = 0) then q else q + 1 := by rw [ht, hq]; rfl
    have ch := chalf
    have nh := nhalf
    have f1 := Fl.gt_is d 4602678819172646912
    have f2 := Fl.eq_is d 4602678819172646912
    have f3 := Fl.lt_is d 13826050856027422720
    have f4 := Fl.eq_is d 13826050856027422720
    rw [hd2] at f1 f2 f3 f4
    have hU := Fl.U_pos
    unfold Fl.sg at *
    clear hq ht ht1 hd hk
    have hsp : (2 * t < U ∧ q % 2 = 0) ∨ (2 * t < U ∧ q % 2 = 1) ∨ (2 * t = U ∧ q % 2 = 0) ∨ (2 * t = U ∧ q % 2 = 1) ∨ (U < 2 * t ∧ q % 2 = 0) ∨ (U < 2 * t ∧ q % 2 = 1) := by omega
    generalize sgn x = s at *
    cases s <;> simp only [Bool.false_eq_true, if_false, if_true] at *
    · rcases hsp with ⟨p1, p2⟩ | ⟨p1, p2⟩ | ⟨p1, p2⟩ | ⟨p1, p2⟩ | ⟨p1, p2⟩ | ⟨p1, p2⟩
      · have e1 : decide (¬ IsNan d ∧ ¬ IsNan 4602678819172646912 ∧ v 4602678819172646912 < (t : Int)) = false := decide_eq_false (fun h => by have := h.2.2; omega)
        rw [e1] at f1
        clear e1
        have e2 : decide (¬ IsNan d ∧ ¬ IsNan 4602678819172646912 ∧ (t : Int) = v 4602678819172646912) = false := decide_eq_false (fun h => by have := h.2.2; omega)
        rw [e2] at f2
        clear e2
        have e3 : decide (¬ IsNan d ∧ ¬ IsNan 13826050856027422720 ∧ (t : Int) < v 13826050856027422720) = false := decide_eq_false (fun h => by have := h.2.2; omega)
        rw [e3] at f3
        clear e3
        have e4 : decide (¬ IsNan d ∧ ¬ IsNan 13826050856027422720 ∧ (t : Int) = v 13826050856027422720) = false := decide_eq_false (fun h => by have := h.2.2; omega)
        rw [e4] at f4
        clear e4
        rw [hr, if_pos (by omega)]
        have m1 : (Int.tmod ((q : Int)) 2 == 0) = true := by
          rw [(tmod_two q).1, p2]; rfl
        have m2 : (Int.tmod ((q : Int)) 2 != 0) = false := by rw [bne, m1]; rfl
        have m3 : ((q : Int) % 2 == 0) = true := by
          have h : (q : Int) % 2 = 0 := by omega
          rw [h]; rfl
        have m4 : ((q : Int) % 2 != 0) = false := by rw [bne, m3]; rfl
        clear hr hd1 hd2 ch nh p2
        have hb : q ≤ 9007199254740992 := hq1
        clear hq1 hq2 p1 hU
        go_enter Try.func10, Try.ntmps10
        go_wp2
        go_ret2
        exact ⟨rfl, 0, rfl⟩
      · have e1 : decide (¬ IsNan d ∧ ¬ IsNan 4602678819172646912 ∧ v 4602678819172646912 < (t : Int)) = false := decide_eq_false (fun h => by have := h.2.2; omega)
        rw [e1] at f1
        clear e1
        have e2 : decide (¬ IsNan d ∧ ¬ IsNan 4602678819172646912 ∧ (t : Int) = v 4602678819172646912) = false := decide_eq_false (fun h => by have := h.2.2; omega)
        rw [e2] at f2
        clear e2
        have e3 : decide (¬ IsNan d ∧ ¬ IsNan 13826050856027422720 ∧ (t : Int) < v 13826050856027422720) = false := decide_eq_false (fun h => by have := h.2.2; omega)
        rw [e3] at f3
        clear e3
        have e4 : decide (¬ IsNan d ∧ ¬ IsNan 13826050856027422720 ∧ (t : Int) = v 13826050856027422720) = false := decide_eq_false (fun h => by have := h.2.2; omega)
        rw [e4] at f4
        clear e4
        rw [hr, if_pos (by omega)]
        have m1 : (Int.tmod ((q : Int)) 2 == 0) = false := by
          rw [(tmod_two q).1, p2]; rfl
        have m2 : (Int.tmod ((q : Int)) 2 != 0) = true := by rw [bne, m1]; rfl
        have m3 : ((q : Int) % 2 == 0) = false := by
          have h : (q : Int) % 2 = 1 := by omega
          rw [h]; rfl
        have m4 : ((q : Int) % 2 != 0) = true := by rw [bne, m3]; rfl
        clear hr hd1 hd2 ch nh p2
        have hb : q ≤ 9007199254740992 := hq1
        clear hq1 hq2 p1 hU
        go_enter Try.func10, Try.ntmps10
        go_wp2
        go_ret2
        exact ⟨rfl, 0, rfl⟩
      · have e1 : decide (¬ IsNan d ∧ ¬ IsNan 4602678819172646912 ∧ v 4602678819172646912 < (t : Int)) = false := decide_eq_false (fun h => by have := h.2.2; omega)
        rw [e1] at f1
        clear e1
        have e2 : decide (¬ IsNan d ∧ ¬ IsNan 4602678819172646912 ∧ (t : Int) = v 4602678819172646912) = true := decide_eq_true ⟨hd1, ch.2, by omega⟩
        rw [e2] at f2
        clear e2
        have e3 : decide (¬ IsNan d ∧ ¬ IsNan 13826050856027422720 ∧ (t : Int) < v 13826050856027422720) = false := decide_eq_false (fun h => by have := h.2.2; omega)
        rw [e3] at f3
        clear e3
        have e4 : decide (¬ IsNan d ∧ ¬ IsNan 13826050856027422720 ∧ (t : Int) = v 13826050856027422720) = false := decide_eq_false (fun h => by have := h.2.2; omega)
        rw [e4] at f4
        clear e4
        rw [hr, if_pos (by omega)]
        have m1 : (Int.tmod ((q : Int)) 2 == 0) = true := by
          rw [(tmod_two q).1, p2]; rfl
        have m2 : (Int.tmod ((q : Int)) 2 != 0) = false := by rw [bne, m1]; rfl
        have m3 : ((q : Int) % 2 == 0) = true := by
          have h : (q : Int) % 2 = 0 := by omega
          rw [h]; rfl
        have m4 : ((q : Int) % 2 != 0) = false := by rw [bne, m3]; rfl
        clear hr hd1 hd2 ch nh p2
        have hb : q ≤ 9007199254740992 := hq1
        clear hq1 hq2 p1 hU
        go_enter Try.func10, Try.ntmps10
        go_wp2
        go_ret2
        exact ⟨rfl, 0, rfl⟩
      · have e1 : decide (¬ IsNan d ∧ ¬ IsNan 4602678819172646912 ∧ v 4602678819172646912 < (t : Int)) = false := decide_eq_false (fun h => by have := h.2.2; omega)
        rw [e1] at f1
        clear e1
        have e2 : decide (¬ IsNan d ∧ ¬ IsNan 4602678819172646912 ∧ (t : Int) = v 4602678819172646912) = true := decide_eq_true ⟨hd1, ch.2, by omega⟩
        rw [e2] at f2
        clear e2
        have e3 : decide (¬ IsNan d ∧ ¬ IsNan 13826050856027422720 ∧ (t : Int) < v 13826050856027422720) = false := decide_eq_false (fun h => by have := h.2.2; omega)
        rw [e3] at f3
        clear e3
        have e4 : decide (¬ IsNan d ∧ ¬ IsNan 13826050856027422720 ∧ (t : Int) = v 13826050856027422720) = false := decide_eq_false (fun h => by have := h.2.2; omega)
        rw [e4] at f4
        clear e4
        rw [hr, if_neg (by omega)]
        have m1 : (Int.tmod ((q : Int)) 2 == 0) = false := by
          rw [(tmod_two q).1, p2]; rfl
        have m2 : (Int.tmod ((q : Int)) 2 != 0) = true := by rw [bne, m1]; rfl
        have m3 : ((q : Int) % 2 == 0) = false := by
          have h : (q : Int) % 2 = 1 := by omega
          rw [h]; rfl
        have m4 : ((q : Int) % 2 != 0) = true := by rw [bne, m3]; rfl
        clear hr hd1 hd2 ch nh p2
        have hb : q ≤ 9007199254740992 := hq1
        have hb2 : q < 9007199254740992 := hq2 (by omega)
        clear hq1 hq2 p1 hU
        go_enter Try.func10, Try.ntmps10
        go_wp2
        go_ret2
        exact ⟨by congr 4, 0, rfl⟩
      · have e1 : decide (¬ IsNan d ∧ ¬ IsNan 4602678819172646912 ∧ v 4602678819172646912 < (t : Int)) = true := decide_eq_true ⟨hd1, ch.2, by omega⟩
        rw [e1] at f1
        clear e1
        have e2 : decide (¬ IsNan d ∧ ¬ IsNan 4602678819172646912 ∧ (t : Int) = v 4602678819172646912) = false := decide_eq_false (fun h => by have := h.2.2; omega)
        rw [e2] at f2
        clear e2
        have e3 : decide (¬ IsNan d ∧ ¬ IsNan 13826050856027422720 ∧ (t : Int) < v 13826050856027422720) = false := decide_eq_false (fun h => by have := h.2.2; omega)
        rw [e3] at f3
        clear e3
        have e4 : decide (¬ IsNan d ∧ ¬ IsNan 13826050856027422720 ∧ (t : Int) = v 13826050856027422720) = false := decide_eq_false (fun h => by have := h.2.2; omega)
        rw [e4] at f4
        clear e4
        rw [hr, if_neg (by omega)]
        have m1 : (Int.tmod ((q : Int)) 2 == 0) = true := by
          rw [(tmod_two q).1, p2]; rfl
        have m2 : (Int.tmod ((q : Int)) 2 != 0) = false := by rw [bne, m1]; rfl
        have m3 : ((q : Int) % 2 == 0) = true := by
          have h : (q : Int) % 2 = 0 := by omega
          rw [h]; rfl
        have m4 : ((q : Int) % 2 != 0) = false := by rw [bne, m3]; rfl
        clear hr hd1 hd2 ch nh p2
        have hb : q ≤ 9007199254740992 := hq1
        have hb2 : q < 9007199254740992 := hq2 (by omega)
        clear hq1 hq2 p1 hU
        go_enter Try.func10, Try.ntmps10
        go_wp2
        go_ret2
        exact ⟨by congr 4, 0, rfl⟩
      · have e1 : decide (¬ IsNan d ∧ ¬ IsNan 4602678819172646912 ∧ v 4602678819172646912 < (t : Int)) = true := decide_eq_true ⟨hd1, ch.2, by omega⟩
        rw [e1] at f1
        clear e1
        have e2 : decide (¬ IsNan d ∧ ¬ IsNan 4602678819172646912 ∧ (t : Int) = v 4602678819172646912) = false := decide_eq_false (fun h => by have := h.2.2; omega)
        rw [e2] at f2
        clear e2
        have e3 : decide (¬ IsNan d ∧ ¬ IsNan 13826050856027422720 ∧ (t : Int) < v 13826050856027422720) = false := decide_eq_false (fun h => by have := h.2.2; omega)
        rw [e3] at f3
        clear e3
        have e4 : decide (¬ IsNan d ∧ ¬ IsNan 13826050856027422720 ∧ (t : Int) = v 13826050856027422720) = false := decide_eq_false (fun h => by have := h.2.2; omega)
        rw [e4] at f4
        clear e4
        rw [hr, if_neg (by omega)]
        have m1 : (Int.tmod ((q : Int)) 2 == 0) = false := by
          rw [(tmod_two q).1, p2]; rfl
        have m2 : (Int.tmod ((q : Int)) 2 != 0) = true := by rw [bne, m1]; rfl
        have m3 : ((q : Int) % 2 == 0) = false := by
          have h : (q : Int) % 2 = 1 := by omega
          rw [h]; rfl
        have m4 : ((q : Int) % 2 != 0) = true := by rw [bne, m3]; rfl
        clear hr hd1 hd2 ch nh p2
        have hb : q ≤ 9007199254740992 := hq1
        have hb2 : q < 9007199254740992 := hq2 (by omega)
        clear hq1 hq2 p1 hU
        go_enter Try.func10, Try.ntmps10
        go_wp2
        go_ret2
        exact ⟨by congr 4, 0, rfl⟩
    · rcases hsp with ⟨p1, p2⟩ | ⟨p1, p2⟩ | ⟨p1, p2⟩ | ⟨p1, p2⟩ | ⟨p1, p2⟩ | ⟨p1, p2⟩
      · have e1 : decide (¬ IsNan d ∧ ¬ IsNan 4602678819172646912 ∧ v 4602678819172646912 < -(t : Int)) = false := decide_eq_false (fun h => by have := h.2.2; omega)
        rw [e1] at f1
        clear e1
        have e2 : decide (¬ IsNan d ∧ ¬ IsNan 4602678819172646912 ∧ -(t : Int) = v 4602678819172646912) = false := decide_eq_false (fun h => by have := h.2.2; omega)
        rw [e2] at f2
        clear e2
        have e3 : decide (¬ IsNan d ∧ ¬ IsNan 13826050856027422720 ∧ -(t : Int) < v 13826050856027422720) = false := decide_eq_false (fun h => by have := h.2.2; omega)
        rw [e3] at f3
        clear e3
        have e4 : decide (¬ IsNan d ∧ ¬ IsNan 13826050856027422720 ∧ -(t : Int) = v 13826050856027422720) = false := decide_eq_false (fun h => by have := h.2.2; omega)
        rw [e4] at f4
        clear e4
        rw [hr, if_pos (by omega)]
        have m1 : (Int.tmod (-(q : Int)) 2 == 0) = true := by
          rw [(tmod_two q).2, p2]; rfl
        have m2 : (Int.tmod (-(q : Int)) 2 != 0) = false := by rw [bne, m1]; rfl
        have m3 : ((q : Int) % 2 == 0) = true := by
          have h : (q : Int) % 2 = 0 := by omega
          rw [h]; rfl
        have m4 : ((q : Int) % 2 != 0) = false := by rw [bne, m3]; rfl
        clear hr hd1 hd2 ch nh p2
        have hb : q ≤ 9007199254740992 := hq1
        clear hq1 hq2 p1 hU
        go_enter Try.func10, Try.ntmps10
        go_wp2
        go_ret2
        exact ⟨rfl, 0, rfl⟩
      · have e1 : decide (¬ IsNan d ∧ ¬ IsNan 4602678819172646912 ∧ v 4602678819172646912 < -(t : Int)) = false := decide_eq_false (fun h => by have := h.2.2; omega)
        rw [e1] at f1
        clear e1
        have e2 : decide (¬ IsNan d ∧ ¬ IsNan 4602678819172646912 ∧ -(t : Int) = v 4602678819172646912) = false := decide_eq_false (fun h => by have := h.2.2; omega)
        rw [e2] at f2
        clear e2
        have e3 : decide (¬ IsNan d ∧ ¬ IsNan 13826050856027422720 ∧ -(t : Int) < v 13826050856027422720) = false := decide_eq_false (fun h => by have := h.2.2; omega)
        rw [e3] at f3
        clear e3
        have e4 : decide (¬ IsNan d ∧ ¬ IsNan 13826050856027422720 ∧ -(t : Int) = v 13826050856027422720) = false := decide_eq_false (fun h => by have := h.2.2; omega)
        rw [e4] at f4
        clear e4
        rw [hr, if_pos (by omega)]
        have m1 : (Int.tmod (-(q : Int)) 2 == 0) = false := by
          rw [(tmod_two q).2, p2]; rfl
        have m2 : (Int.tmod (-(q : Int)) 2 != 0) = true := by rw [bne, m1]; rfl
        have m3 : ((q : Int) % 2 == 0) = false := by
          have h : (q : Int) % 2 = 1 := by omega
          rw [h]; rfl
        have m4 : ((q : Int) % 2 != 0) = true := by rw [bne, m3]; rfl
        clear hr hd1 hd2 ch nh p2
        have hb : q ≤ 9007199254740992 := hq1
        clear hq1 hq2 p1 hU
        go_enter Try.func10, Try.ntmps10
        go_wp2
        go_ret2
        exact ⟨rfl, 0, rfl⟩
      · have e1 : decide (¬ IsNan d ∧ ¬ IsNan 4602678819172646912 ∧ v 4602678819172646912 < -(t : Int)) = false := decide_eq_false (fun h => by have := h.2.2; omega)
        rw [e1] at f1
        clear e1
        have e2 : decide (¬ IsNan d ∧ ¬ IsNan 4602678819172646912 ∧ -(t : Int) = v 4602678819172646912) = false := decide_eq_false (fun h => by have := h.2.2; omega)
        rw [e2] at f2
        clear e2
        have e3 : decide (¬ IsNan d ∧ ¬ IsNan 13826050856027422720 ∧ -(t : Int) < v 13826050856027422720) = false := decide_eq_false (fun h => by have := h.2.2; omega)
        rw [e3] at f3
        clear e3
        have e4 : decide (¬ IsNan d ∧ ¬ IsNan 13826050856027422720 ∧ -(t : Int) = v 13826050856027422720) = true := decide_eq_true ⟨hd1, nh.2, by omega⟩
        rw [e4] at f4
        clear e4
        rw [hr, if_pos (by omega)]
        have m1 : (Int.tmod (-(q : Int)) 2 == 0) = true := by
          rw [(tmod_two q).2, p2]; rfl
        have m2 : (Int.tmod (-(q : Int)) 2 != 0) = false := by rw [bne, m1]; rfl
        have m3 : ((q : Int) % 2 == 0) = true := by
          have h : (q : Int) % 2 = 0 := by omega
          rw [h]; rfl
        have m4 : ((q : Int) % 2 != 0) = false := by rw [bne, m3]; rfl
        clear hr hd1 hd2 ch nh p2
        have hb : q ≤ 9007199254740992 := hq1
        clear hq1 hq2 p1 hU
        go_enter Try.func10, Try.ntmps10
        go_wp2
        go_ret2
        exact ⟨rfl, 0, rfl⟩
      · have e1 : decide (¬ IsNan d ∧ ¬ IsNan 4602678819172646912 ∧ v 4602678819172646912 < -(t : Int)) = false := decide_eq_false (fun h => by have := h.2.2; omega)
        rw [e1] at f1
        clear e1
        have e2 : decide (¬ IsNan d ∧ ¬ IsNan 4602678819172646912 ∧ -(t : Int) = v 4602678819172646912) = false := decide_eq_false (fun h => by have := h.2.2; omega)
        rw [e2] at f2
        clear e2
        have e3 : decide (¬ IsNan d ∧ ¬ IsNan 13826050856027422720 ∧ -(t : Int) < v 13826050856027422720) = false := decide_eq_false (fun h => by have := h.2.2; omega)
        rw [e3] at f3
        clear e3
        have e4 : decide (¬ IsNan d ∧ ¬ IsNan 13826050856027422720 ∧ -(t : Int) = v 13826050856027422720) = true := decide_eq_true ⟨hd1, nh.2, by omega⟩
        rw [e4] at f4
        clear e4
        rw [hr, if_neg (by omega)]
        rw [show -((q + 1 : Nat) : Int) = -(q : Int) - 1 by omega]
        have m1 : (Int.tmod (-(q : Int)) 2 == 0) = false := by
          rw [(tmod_two q).2, p2]; rfl
        have m2 : (Int.tmod (-(q : Int)) 2 != 0) = true := by rw [bne, m1]; rfl
        have m3 : ((q : Int) % 2 == 0) = false := by
          have h : (q : Int) % 2 = 1 := by omega
          rw [h]; rfl
        have m4 : ((q : Int) % 2 != 0) = true := by rw [bne, m3]; rfl
        clear hr hd1 hd2 ch nh p2
        have hb : q ≤ 9007199254740992 := hq1
        have hb2 : q < 9007199254740992 := hq2 (by omega)
        clear hq1 hq2 p1 hU
        go_enter Try.func10, Try.ntmps10
        go_wp2
        go_ret2
        exact ⟨rfl, 0, rfl⟩
      · have e1 : decide (¬ IsNan d ∧ ¬ IsNan 4602678819172646912 ∧ v 4602678819172646912 < -(t : Int)) = false := decide_eq_false (fun h => by have := h.2.2; omega)
        rw [e1] at f1
        clear e1
        have e2 : decide (¬ IsNan d ∧ ¬ IsNan 4602678819172646912 ∧ -(t : Int) = v 4602678819172646912) = false := decide_eq_false (fun h => by have := h.2.2; omega)
        rw [e2] at f2
        clear e2
        have e3 : decide (¬ IsNan d ∧ ¬ IsNan 13826050856027422720 ∧ -(t : Int) < v 13826050856027422720) = true := decide_eq_true ⟨hd1, nh.2, by omega⟩
        rw [e3] at f3
        clear e3
        have e4 : decide (¬ IsNan d ∧ ¬ IsNan 13826050856027422720 ∧ -(t : Int) = v 13826050856027422720) = false := decide_eq_false (fun h => by have := h.2.2; omega)
        rw [e4] at f4
        clear e4
        rw [hr, if_neg (by omega)]
        rw [show -((q + 1 : Nat) : Int) = -(q : Int) - 1 by omega]
        have m1 : (Int.tmod (-(q : Int)) 2 == 0) = true := by
          rw [(tmod_two q).2, p2]; rfl
        have m2 : (Int.tmod (-(q : Int)) 2 != 0) = false := by rw [bne, m1]; rfl
        have m3 : ((q : Int) % 2 == 0) = true := by
          have h : (q : Int) % 2 = 0 := by omega
          rw [h]; rfl
        have m4 : ((q : Int) % 2 != 0) = false := by rw [bne, m3]; rfl
        clear hr hd1 hd2 ch nh p2
        have hb : q ≤ 9007199254740992 := hq1
        have hb2 : q < 9007199254740992 := hq2 (by omega)
        clear hq1 hq2 p1 hU
        go_enter Try.func10, Try.ntmps10
        go_wp2
        go_ret2
        exact ⟨rfl, 0, rfl⟩
      · have e1 : decide (¬ IsNan d ∧ ¬ IsNan 4602678819172646912 ∧ v 4602678819172646912 < -(t : Int)) = false := decide_eq_false (fun h => by have := h.2.2; omega)
        rw [e1] at f1
        clear e1
        have e2 : decide (¬ IsNan d ∧ ¬ IsNan 4602678819172646912 ∧ -(t : Int) = v 4602678819172646912) = false := decide_eq_false (fun h => by have := h.2.2; omega)
        rw [e2] at f2
        clear e2
        have e3 : decide (¬ IsNan d ∧ ¬ IsNan 13826050856027422720 ∧ -(t : Int) < v 13826050856027422720) = true := decide_eq_true ⟨hd1, nh.2, by omega⟩
        rw [e3] at f3
        clear e3
        have e4 : decide (¬ IsNan d ∧ ¬ IsNan 13826050856027422720 ∧ -(t : Int) = v 13826050856027422720) = false := decide_eq_false (fun h => by have := h.2.2; omega)
        rw [e4] at f4
        clear e4
        rw [hr, if_neg (by omega)]
        rw [show -((q + 1 : Nat) : Int) = -(q : Int) - 1 by omega]
        have m1 : (Int.tmod (-(q : Int)) 2 == 0) = false := by
          rw [(tmod_two q).2, p2]; rfl
        have m2 : (Int.tmod (-(q : Int)) 2 != 0) = true := by rw [bne, m1]; rfl
        have m3 : ((q : Int) % 2 == 0) = false := by
          have h : (q : Int) % 2 = 1 := by omega
          rw [h]; rfl
        have m4 : ((q : Int) % 2 != 0) = true := by rw [bne, m3]; rfl
        clear hr hd1 hd2 ch nh p2
        have hb : q ≤ 9007199254740992 := hq1
        have hb2 : q < 9007199254740992 := hq2 (by omega)
        clear hq1 hq2 p1 hU
        go_enter Try.func10, Try.ntmps10
        go_wp2
        go_ret2
        exact ⟨rfl, 0, rfl⟩
  · rw [decide_eq_false hk, Fl.rnd_no hk]
    have ho := fun h => hk (ok_lt.2 h)
    by_cases hn : IsNan x ∨ v x < v 14069245235905429504
    · have g1 : (FloatKind.f64.format.order 14069245235905429504 x == some Ordering.lt || FloatKind.f64.format.order 14069245235905429504 x == some Ordering.eq) = false := (by
        by_cases h : IsNan x
        · exact le_nan (.inr h)
        · rw [le_is n53.2 h]
          exact decide_eq_false (by have := hn.resolve_left h; omega))
      clear ho hn
      go_enter Try.func10, Try.ntmps10
      go_wp2
      go_ret2
      exact ⟨rfl, 0, rfl⟩
    · have hx : ¬ IsNan x := fun h => hn (.inl h)
      have hv : ¬ v x < v 14069245235905429504 := fun h => hn (.inr h)
      have g1 := (le_is n53.2 hx).trans (decide_eq_true (Int.not_lt.1 hv))
      have g2 := (le_is hx c53.2.2).trans (decide_eq_false (fun h => ho ⟨Int.not_lt.2 h, hv⟩))
      clear ho hn hv
      go_enter Try.func10, Try.ntmps10
      go_wp2
      go_ret2
      exact ⟨rfl, 0, rfl⟩
end Go.Proofs.Ytbgpgdbheajekaa

/-
  Sorting in place, on plain lists: parts that are in order, parts whose elements change places; a swap; what a merge in place needs. Conditions: none; nothing of the program is named here.
-/
namespace Fl
open Pol (co)

/-- In order from a up to b. -/
def SIn (a b : Nat) (d : List Nat) : Prop := ∀ i j, a ≤ i → i ≤ j → j < b → K (co d i) ≤ K (co d j)
/-- The elements from a up to b change places among themselves. -/
structure PIn (a b : Nat) (d d' : List Nat) : Prop where
  len : d'.length = d.length
  out : ∀ i, i < a ∨ b ≤ i → co d' i = co d i
  perm : d'.Perm d
  inn : ∀ i, a ≤ i → i < b → ∃ j, a ≤ j ∧ j < b ∧ co d' i = co d j
theorem PIn.refl (a b : Nat) (d : List Nat) : PIn a b d d := ⟨rfl, fun _ _ => rfl, List.Perm.refl _, fun i h1 h2 => ⟨i, h1, h2, rfl⟩⟩
theorem PIn.trans {a b : Nat} {d d' d'' : List Nat} (h : PIn a b d d') (k : PIn a b d' d'') : PIn a b d d'' :=
  ⟨k.len.trans h.len, fun i hi => (k.out i hi).trans (h.out i hi), k.perm.trans h.perm, fun i h1 h2 => by
    obtain ⟨j, j1, j2, e⟩ := k.inn i h1 h2
    obtain ⟨l, l1, l2, e'⟩ := h.inn j j1 j2
    exact ⟨l, l1, l2, e.trans e'⟩⟩
theorem PIn.mono {a b a' b' : Nat} {d d' : List Nat} (h : PIn a b d d') (ha : a' ≤ a) (hb : b ≤ b') : PIn a' b' d d' :=
  ⟨h.len, fun i hi => h.out i (by omega), h.perm, fun i h1 h2 => by
    by_cases hi : a ≤ i ∧ i < b
    · obtain ⟨j, j1, j2, e⟩ := h.inn i hi.1 hi.2
      exact ⟨j, by omega, by omega, e⟩
    · exact ⟨i, h1, h2, h.out i (by omega)⟩⟩
theorem SIn.keep {a b x y : Nat} {d d' : List Nat} (h : SIn x y d) (hp : PIn a b d d') (hd : y ≤ a ∨ b ≤ x) : SIn x y d' := fun i j h1 h2 h3 => by
  rw [hp.out i (by omega), hp.out j (by omega)]
  exact h i j h1 h2 h3
theorem SIn.sub {a b x y : Nat} {d : List Nat} (h : SIn a b d) (h1 : a ≤ x) (h2 : y ≤ b) : SIn x y d := fun i j k1 k2 k3 => h i j (by omega) k2 (by omega)
theorem SIn.one {a b : Nat} {d : List Nat} (h : b ≤ a + 1) : SIn a b d := fun i j k1 k2 k3 => by
  obtain rfl : i = j := by omega
  exact Int.le_refl _
theorem SIn.join {a m b : Nat} {d : List Nat} (h : SIn a m d) (k : SIn m b d) (hx : ∀ i j, a ≤ i → i < m → m ≤ j → j < b → K (co d i) ≤ K (co d j)) : SIn a b d := fun i j h1 h2 h3 => by
  by_cases c1 : j < m
  · exact h i j h1 h2 c1
  · by_cases c2 : m ≤ i
    · exact k i j c2 h2 h3
    · exact hx i j h1 (by omega) (by omega) h3
/-- Two elements change places. -/
def sw (d : List Nat) (i j : Nat) : List Nat := (d.set i (co d j)).set j (co d i)
theorem sw_len (d : List Nat) (i j : Nat) : (sw d i j).length = d.length := by unfold sw; simp
theorem sw_co {d : List Nat} {i j : Nat} (hi : i < d.length) (hj : j < d.length) (k : Nat) : co (sw d i j) k = if k = j then co d i else if k = i then co d j else co d k := by
  unfold sw co
  by_cases h1 : k = j
  · subst h1
    rw [List.getElem?_set_self (by simpa using hj), if_pos rfl]
    rfl
  · rw [List.getElem?_set_ne (fun h => h1 h.symm), if_neg h1]
    by_cases h2 : k = i
    · subst h2
      rw [List.getElem?_set_self hi, if_pos rfl]
      rfl
    · rw [List.getElem?_set_ne (fun h => h2 h.symm), if_neg h2]
theorem sw_perm {d : List Nat} {i j : Nat} (hi : i < d.length) (hj : j < d.length) : (sw d i j).Perm d := by
  have h := Array.swap_perm (xs := d.toArray) (i := i) (j := j) (by simpa using hi) (by simpa using hj)
  rw [Array.perm_iff_toList_perm] at h
  have e : (d.toArray.swap i j (by simpa using hi) (by simpa using hj)).toList = sw d i j := by
    unfold sw co
    simp [Array.swap, List.getElem?_eq_getElem hi, List.getElem?_eq_getElem hj]
  rwa [e] at h
theorem PIn.swap {a b i j : Nat} {d : List Nat} (hi : a ≤ i) (hi2 : i < b) (hj : a ≤ j) (hj2 : j < b) (hb : b ≤ d.length) : PIn a b d (sw d i j) :=
  ⟨sw_len .., fun k hk => by rw [sw_co (by omega) (by omega), if_neg (by omega), if_neg (by omega)], sw_perm (by omega) (by omega), fun k h1 h2 => by
    rw [sw_co (by omega) (by omega)]
    by_cases c1 : k = j
    · rw [if_pos c1]; exact ⟨i, hi, hi2, rfl⟩
    · rw [if_neg c1]
      by_cases c2 : k = i
      · rw [if_pos c2]; exact ⟨j, hj, hj2, rfl⟩
      · rw [if_neg c2]; exact ⟨k, h1, h2, rfl⟩⟩
/-- Two stretches change places. -/
def swr (d : List Nat) (a b : Nat) : Nat → List Nat
  | 0 => d
  | k + 1 => sw (swr d a b k) (a + k) (b + k)
theorem swr_len (d : List Nat) (a b k : Nat) : (swr d a b k).length = d.length := by
  induction k with
  | zero => rfl
  | succ k ih => unfold swr; rw [sw_len, ih]
theorem swr_co {d : List Nat} {a b : Nat} : ∀ {k : Nat}, a + k ≤ b → b + k ≤ d.length → ∀ p, co (swr d a b k) p = if a ≤ p ∧ p < a + k then co d (p + (b - a)) else if b ≤ p ∧ p < b + k then co d (p - (b - a)) else co d p
  | 0, _, _, p => by rw [if_neg (by omega), if_neg (by omega)]; rfl
  | k + 1, h1, h2, p => by
    unfold swr
    rw [sw_co (by rw [swr_len]; omega) (by rw [swr_len]; omega), swr_co (by omega) (by omega), swr_co (by omega) (by omega), swr_co (by omega) (by omega)]
    by_cases c1 : p = b + k
    · subst c1
      rw [if_pos rfl, if_neg (by omega), if_neg (by omega), if_neg (by omega), if_pos (by omega)]
      congr 1
      omega
    · rw [if_neg c1]
      by_cases c2 : p = a + k
      · subst c2
        rw [if_pos rfl, if_neg (by omega), if_neg (by omega), if_pos (by omega)]
        congr 1
        omega
      · rw [if_neg c2]
        by_cases c3 : a ≤ p ∧ p < a + k
        · rw [if_pos c3, if_pos (by omega)]
        · rw [if_neg c3, if_neg (show ¬ (a ≤ p ∧ p < a + (k + 1)) by omega)]
          by_cases c4 : b ≤ p ∧ p < b + k
          · rw [if_pos c4, if_pos (by omega)]
          · rw [if_neg c4, if_neg (by omega)]
theorem swr_pin {d : List Nat} {a b x y : Nat} : ∀ {k : Nat}, x ≤ a → a + k ≤ b → b + k ≤ y → y ≤ d.length → PIn x y d (swr d a b k)
  | 0, _, _, _, _ => PIn.refl ..
  | k + 1, h1, h2, h3, h4 => (swr_pin (k := k) h1 (by omega) (by omega) h4).trans (PIn.swap (by omega) (by omega) (by omega) (by omega) (by rw [swr_len]; exact h4))
/-- A stretch turned about: what lies from m up to b comes ahead of what lies from a up to m. -/
def Rot (a m b : Nat) (d d' : List Nat) : Prop := ∀ p, co d' p = if p < a ∨ b ≤ p then co d p else if p < a + (b - m) then co d (p + (m - a)) else co d (p - (b - m))
theorem Rot.less {m i j : Nat} {d d' : List Nat} (hi : j < i) (him : i ≤ m) (hb : m + j ≤ d.length) (h : Rot (m - (i - j)) m (m + j) (swr d (m - i) m j) d') : Rot (m - i) m (m + j) d d' := fun p => by
  rw [h p]
  have s := swr_co (d := d) (a := m - i) (b := m) (k := j) (by omega) hb
  rw [s, s, s]
  by_cases c1 : p < m - i ∨ m + j ≤ p
  · rw [if_pos c1, if_pos (by omega), if_neg (by omega), if_neg (by omega)]
  · rw [if_neg c1]
    by_cases c2 : p < m - i + j
    · rw [if_pos (show p < m - (i - j) ∨ m + j ≤ p by omega), if_pos (by omega), if_pos (by omega)]
    · rw [if_neg (show ¬ (p < m - (i - j) ∨ m + j ≤ p) by omega), if_neg (show ¬ p < m - i + (m + j - m) by omega)]
      by_cases c3 : p < m - (i - j) + (m + j - m)
      · rw [if_pos c3, if_neg (show ¬ (m - i ≤ p + (m - (m - (i - j))) ∧ p + (m - (m - (i - j))) < m - i + j) by omega), if_pos (by omega)]
        congr 1
        omega
      · rw [if_neg c3, if_neg (by omega), if_neg (by omega)]
theorem Rot.more {m i j : Nat} {d d' : List Nat} (hi : i < j) (him : i ≤ m) (hb : m + j ≤ d.length) (h : Rot (m - i) m (m + (j - i)) (swr d (m - i) (m + j - i) i) d') : Rot (m - i) m (m + j) d d' := fun p => by
  rw [h p]
  have s := swr_co (d := d) (a := m - i) (b := m + j - i) (k := i) (by omega) (by omega)
  rw [s, s, s]
  by_cases c1 : p < m - i ∨ m + j ≤ p
  · rw [if_pos c1, if_pos (by omega), if_neg (by omega), if_neg (by omega)]
  · rw [if_neg c1]
    by_cases c2 : m + j - i ≤ p
    · rw [if_pos (show p < m - i ∨ m + (j - i) ≤ p by omega), if_neg (by omega), if_pos (by omega), if_neg (by omega)]
      congr 1
      omega
    · rw [if_neg (show ¬ (p < m - i ∨ m + (j - i) ≤ p) by omega)]
      by_cases c3 : p < m - i + (m + (j - i) - m)
      · rw [if_pos c3, if_pos (show p < m - i + (m + j - m) by omega), if_neg (by omega), if_neg (by omega)]
      · rw [if_neg c3, if_pos (by omega)]
        by_cases c4 : p < m - i + (m + j - m)
        · rw [if_pos c4]
          congr 1
          omega
        · rw [if_neg c4]
          congr 1
          omega
theorem Rot.same {m i : Nat} {d : List Nat} (him : i ≤ m) (hb : m + i ≤ d.length) : Rot (m - i) m (m + i) d (swr d (m - i) m i) := fun p => by
  rw [swr_co (d := d) (a := m - i) (b := m) (k := i) (by omega) (by omega)]
  by_cases c1 : p < m - i ∨ m + i ≤ p
  · rw [if_pos c1, if_neg (by omega), if_neg (by omega)]
  · rw [if_neg c1]
    by_cases c2 : p < m
    · rw [if_pos (by omega), if_pos (by omega)]
    · rw [if_neg (by omega), if_pos (by omega), if_neg (by omega)]
      congr 1
      omega
end Fl

/-
  The library's swapRange over rates of a call's own. Conditions: no more than 2^16 rates.
-/
namespace Go.Proofs.Ytbgpgdbheajekaa
open Go.RowKit
open Pol (co)
open Fl (K sw swr PIn SIn Rot)

/-- Rates of a call's own, in block g. -/
abbrev Own (w : World) (base g n c : Nat) (d : List Nat) : Prop := FMine w base (.slice (some ⟨g, 0, none⟩) n c) d
theorem Own.len {w : World} {base g n c : Nat} {d : List Nat} (h : Own w base g n c d) : d.length = n := by
  rcases h.2 with ⟨e, _⟩ | ⟨g', cap, cur, e, _⟩
  · cases e
  · injection e with _ e2 _
    exact e2.symm
theorem Own.cell {w : World} {base g n c : Nat} {d : List Nat} (h : Own w base g n c d) {i : Nat} (hi : i < n) : w.cell? ⟨g, i, none⟩ = some (.float .f64 (co d i)) ∧ w.frozen? ⟨g, i, none⟩ = false := by
  obtain ⟨g', n', c', e, _, h1, h2⟩ := FMine.spot h (i := i) (by rw [h.len]; exact hi)
  injection e with e1 e2 e3
  injection e1 with e1
  injection e1 with e1
  subst e1
  exact ⟨h1, h2⟩
theorem Own.drewN {w : World} {base g n c : Nat} {d : List Nat} (h : Own w base g n c d) (k : Nat) : Own (w.drewN k) base g n c d := h
theorem Own.put {w : World} {base g n c : Nat} {d : List Nat} (h : Own w base g n c d) (i x : Nat) : Own (w.setCell ⟨g, i, none⟩ (.float .f64 x)) base g n c (d.set i x) := FMine.put h
/-- What a call leaves of rates in block g: all else is as it was. -/
def Lves (X : List Nat → Prop) (base g n c : Nat) (w : World) (e : Ending) (w' : World) : Prop := e = .returned (.tuple #[]) ∧ ∃ d', X d' ∧ Own w' base g n c d' ∧ w.grownBy w' (some g)
theorem grown_refl (w : World) (r : Option Nat) : w.grownBy w r := ⟨rfl, rfl, rfl, Nat.le_refl _, fun _ _ _ => rfl⟩
theorem grown_drewN {w w1 : World} {r : Option Nat} (h : w.grownBy w1 r) (k : Nat) : w.grownBy (w1.drewN k) r := by
  obtain ⟨h1, h2, h3, h4, h5⟩ := h
  exact ⟨h1, h2, h3, h4, h5⟩
theorem grown_put {w w1 : World} {g : Nat} (h : w.grownBy w1 (some g)) (i : Nat) (v : Value) : w.grownBy (w1.setCell ⟨g, i, none⟩ v) (some g) := by
  obtain ⟨h1, h2, h3, h4, h5⟩ := h
  exact ⟨h1, h2, h3, by simpa using h4, fun k hk hne => (Below.heap_setCell _ _ _ k (fun e => hne (by rw [show k = g from e]))).trans (h5 k hk hne)⟩
theorem swap_own {w : World} {base g n c i j x y : Nat} {d : List Nat} (h : Own w base g n c d) (hx : co d j = x) (hy : co d i = y) : Own ((w.setCell ⟨g, i, none⟩ (.float .f64 x)).setCell ⟨g, j, none⟩ (.float .f64 y)) base g n c (sw d i j) := by
  unfold Fl.sw
  rw [hx, hy]
  exact (h.put i x).put j y
set_option maxHeartbeats 1600000 in
theorem st_swap (base g n c a b k : Nat) (cmp : Value) (d : List Nat) (w : World) (h : Own w base g n c d) (h1 : a + k ≤ b) (h2 : b + k ≤ n) (hn : n ≤ 65536) :
    Calls Try.prog 36 #[.slice (some ⟨g, 0, none⟩) n c, .int .i64 (a : Int), .int .i64 (b : Int), .int .i64 (k : Int), cmp] w (Lves (fun d' => d' = swr d a b k) base g n c w) := by
  have hst := fun W a m b => run_store Try.prog W a (.float .f64 b) m rfl
  have H := Lib.hid h
  have HN := Lib.hid h.len
  clear h
  go_enter Try.func36, Try.ntmps36
  go_wp2
  go_loopg [10] k (fun q s wx => ∃ i : Nat, i + q = k ∧ s = .int .i64 (i : Int) ∧ Own wx base g n c (swr d a b i) ∧ w.grownBy wx (some g))
  case atStart => exact ⟨0, by omega, rfl, H.out, grown_refl _ _⟩
  case round =>
    obtain ⟨i, hik, rfl, ho, hg⟩ := hrel
    have HO := Lib.hid ho
    have HG := Lib.hid hg
    clear ho hg
    cases gk with
    | zero =>
      obtain rfl : i = k := by omega
      clear hik
      go_wp2
      go_end0
      exact ⟨rfl, _, rfl, HO.out, HG.out⟩
    | succ q =>
      have hi : (i : Int) < (k : Int) := by omega
      obtain ⟨p1, e1⟩ : ∃ p, a + i = p := ⟨_, rfl⟩
      obtain ⟨p2, e2⟩ : ∃ p, b + i = p := ⟨_, rfl⟩
      have z1 : (a : Int) + (i : Int) = (p1 : Int) := by omega
      have z2 : (b : Int) + (i : Int) = (p2 : Int) := by omega
      have b1 : p1 < n := by omega
      have b2 : p2 < n := by omega
      have hne : p1 ≠ p2 := by omega
      obtain ⟨c1, f1⟩ := HO.out.cell b1
      obtain ⟨c2, f2⟩ := HO.out.cell b2
      obtain ⟨x1, v1⟩ : ∃ x, co (swr d a b i) p1 = x := ⟨_, rfl⟩
      obtain ⟨x2, v2⟩ : ∃ x, co (swr d a b i) p2 = x := ⟨_, rfl⟩
      rw [v1] at c1
      rw [v2] at c2
      have HV := Lib.hid (And.intro v1 v2)
      have HE := Lib.hid (And.intro e1 e2)
      have HIK := Lib.hid hik
      clear v1 v2 e1 e2 hik
      go_wp2
      go_big_region
      all_goals go_wp2
      go_roundg q
      case measure => omega
      case rel => exact ⟨i + 1, by have := HIK.out; omega, by go_num, by
        unfold Fl.swr
        rw [HE.out.1, HE.out.2]
        exact swap_own (HO.out.drewN 1) HV.out.2 HV.out.1, grown_put (grown_put (grown_drewN HG.out 1) _ _) _ _⟩
end Go.Proofs.Ytbgpgdbheajekaa

/-
  The library's rotate over rates of a call's own. Conditions: no more than 2^16 rates.
-/
namespace Go.Proofs.Ytbgpgdbheajekaa
open Go.RowKit
open Pol (co)
open Fl (K sw swr PIn SIn Rot)

theorem Lves.mono {X Y : List Nat → Prop} {base g n c : Nat} {w : World} {e : Ending} {w' : World} (h : Lves X base g n c w e w') (k : ∀ d, X d → Y d) : Lves Y base g n c w e w' := by
  obtain ⟨he, d', hx, ho, hg⟩ := h
  exact ⟨he, d', k _ hx, ho, hg⟩
theorem grown_trans {w w1 w2 : World} {r : Option Nat} (h : w.grownBy w1 r) (k : w1.grownBy w2 r) : w.grownBy w2 r := by
  obtain ⟨h1, h2, h3, h4, h5⟩ := h
  obtain ⟨k1, k2, k3, k4, k5⟩ := k
  exact ⟨k1.trans h1, k2.trans h2, k3.trans h3, Nat.le_trans h4 k4, fun q hq hne => (k5 q (by omega) hne).trans (h5 q hq hne)⟩
set_option maxHeartbeats 1600000 in
theorem st_rot (base g n c a m b : Nat) (cmp : Value) (d : List Nat) (w : World) (h : Own w base g n c d) (h1 : a < m) (h2 : m < b) (h3 : b ≤ n) (hn : n ≤ 65536) :
    Calls Try.prog 35 #[.slice (some ⟨g, 0, none⟩) n c, .int .i64 (a : Int), .int .i64 (m : Int), .int .i64 (b : Int), cmp] w (Lves (fun d' => Rot a m b d d' ∧ PIn a b d d') base g n c w) := by
  have H := Lib.hid h
  have HN := Lib.hid h.len
  obtain ⟨i0, e1⟩ : ∃ p, m - a = p := ⟨_, rfl⟩
  obtain ⟨j0, e2⟩ : ∃ p, b - m = p := ⟨_, rfl⟩
  have z1 : (m : Int) - (a : Int) = (i0 : Int) := by omega
  have z2 : (b : Int) - (m : Int) = (j0 : Int) := by omega
  have HA := Lib.hid (show m - i0 = a ∧ m + j0 = b by omega)
  have hi0 : 0 < i0 ∧ 0 < j0 ∧ i0 ≤ m ∧ m + j0 ≤ n := by omega
  clear h e1 e2
  go_enter Try.func35, Try.ntmps35
  go_wp2
  go_loopg [10, 11] (i0 + j0) (fun q s10 s11 wx => ∃ i j : Nat, s10 = .int .i64 (i : Int) ∧ s11 = .int .i64 (j : Int) ∧ i + j ≤ q ∧ 0 < i ∧ 0 < j ∧ i ≤ m ∧ m + j ≤ n ∧ a ≤ m - i ∧ m + j ≤ b ∧ w.grownBy wx (some g) ∧ ∃ x, Own wx base g n c x ∧ PIn a b d x ∧ ∀ y, Rot (m - i) m (m + j) x y → Rot a m b d y)
  case atStart => exact ⟨i0, j0, rfl, rfl, Nat.le_refl _, hi0.1, hi0.2.1, hi0.2.2.1, hi0.2.2.2, by have := HA.out; omega, by have := HA.out; omega, grown_refl _ _, d, H.out, PIn.refl .., fun y hy => by rw [HA.out.1, HA.out.2] at hy; exact hy⟩
  case round =>
    obtain ⟨i, j, rfl, rfl, hq, hi, hj, him, hjn, hai, hjb, hg, x, ho, hp, hr⟩ := hrel
    have HG := Lib.hid hg
    have HO := Lib.hid ho
    have HP := Lib.hid hp
    have HR := Lib.hid hr
    have HX := Lib.hid ho.len
    clear hg ho hp hr z1 z2 hi0 HA H
    obtain ⟨mi, e1⟩ : ∃ p, m - i = p := ⟨_, rfl⟩
    have z1 : (m : Int) - (i : Int) = (mi : Int) := by omega
    have HM := Lib.hid e1
    rcases Nat.lt_trichotomy i j with hij | hij | hij
    · -- the left part is the shorter one
      have d1 : ((i : Int) != (j : Int)) = true := by simp; omega
      have d2 : decide ((i : Int) = (j : Int)) = false := decide_eq_false (by omega)
      have d3 : decide (i = j) = false := decide_eq_false (by omega)
      have d4 : decide ((i : Int) > (j : Int)) = false := decide_eq_false (by omega)
      have d5 : decide ((j : Int) < (i : Int)) = false := decide_eq_false (by omega)
      obtain ⟨ji, e2⟩ : ∃ p, j - i = p := ⟨_, rfl⟩
      obtain ⟨mj, e3⟩ : ∃ p, m + j = p := ⟨_, rfl⟩
      obtain ⟨mji, e4⟩ : ∃ p, mj - i = p := ⟨_, rfl⟩
      have z2 : (j : Int) - (i : Int) = (ji : Int) := by omega
      have z3 : (m : Int) + (j : Int) = (mj : Int) := by omega
      have z4 : (mj : Int) - (i : Int) = (mji : Int) := by omega
      have HE := Lib.hid (And.intro e2 (And.intro e3 e4))
      have HSW := Lib.hid (st_swap base g n c mi mji i cmp x wr HO.out (by omega) (by omega) hn)
      cases gk with
      | zero => omega
      | succ q =>
        clear e1 e2 e3 e4
        go_wp2_with fail
        refine HSW.out.mono ?_
        rintro e w1 ⟨rfl, y, rfl, ho1, hg1⟩
        have HO1 := Lib.hid ho1
        have HG1 := Lib.hid (grown_trans HG.out hg1)
        clear ho1 hg1
        go_wp2
        go_roundg q
        case measure => omega
        case rel =>
          obtain ⟨e2, e3, e4⟩ := HE.out
          have e1 := HM.out
          have hxl := HX.out
          refine ⟨i, ji, rfl, by go_num, by omega, hi, by omega, him, by omega, hai, by omega, HG1.out, _, HO1.out, HP.out.trans (Fl.swr_pin (by omega) (by omega) (by omega) (by rw [HP.out.len, HN.out]; exact h3)), fun y hy => HR.out y ?_⟩
          refine Rot.more hij him (by omega) ?_
          rw [e1, show m + j - i = mji by omega, show j - i = ji by omega] at *
          exact hy
    · -- both are as long
      subst hij
      have HSW := Lib.hid (st_swap base g n c mi m i cmp x wr HO.out (by omega) (by omega) hn)
      clear e1
      go_wp2_with fail
      refine HSW.out.mono ?_
      rintro e w1 ⟨rfl, y, rfl, ho1, hg1⟩
      have HO1 := Lib.hid ho1
      have HG1 := Lib.hid (grown_trans HG.out hg1)
      clear ho1 hg1
      go_wp2
      go_end0
      have e1 := HM.out
      have hxl := HX.out
      refine ⟨rfl, _, ⟨HR.out _ ?_, HP.out.trans (Fl.swr_pin (by omega) (by omega) (by omega) (by rw [HP.out.len, HN.out]; exact h3))⟩, HO1.out, HG1.out⟩
      rw [← e1]
      exact Rot.same him (by omega)
    · -- the right part is the shorter one
      have d1 : ((i : Int) != (j : Int)) = true := by simp; omega
      have d2 : decide ((i : Int) = (j : Int)) = false := decide_eq_false (by omega)
      have d3 : decide (i = j) = false := decide_eq_false (by omega)
      have d4 : decide ((i : Int) > (j : Int)) = true := decide_eq_true (by omega)
      have d5 : decide ((j : Int) < (i : Int)) = true := decide_eq_true (by omega)
      obtain ⟨ij, e2⟩ : ∃ p, i - j = p := ⟨_, rfl⟩
      have z2 : (i : Int) - (j : Int) = (ij : Int) := by omega
      have HE := Lib.hid e2
      have HSW := Lib.hid (st_swap base g n c mi m j cmp x wr HO.out (by omega) (by omega) hn)
      cases gk with
      | zero => omega
      | succ q =>
        clear e1 e2
        go_wp2_with fail
        refine HSW.out.mono ?_
        rintro e w1 ⟨rfl, y, rfl, ho1, hg1⟩
        have HO1 := Lib.hid ho1
        have HG1 := Lib.hid (grown_trans HG.out hg1)
        clear ho1 hg1
        go_wp2
        go_roundg q
        case measure => omega
        case rel =>
          have e2 := HE.out
          have e1 := HM.out
          have hxl := HX.out
          refine ⟨ij, j, by go_num, rfl, by omega, by omega, hj, by omega, hjn, by omega, hjb, HG1.out, _, HO1.out, HP.out.trans (Fl.swr_pin (by omega) (by omega) (by omega) (by rw [HP.out.len, HN.out]; exact h3)), fun y hy => HR.out y ?_⟩
          refine Rot.less hij him (by omega) ?_
          rw [e1, e2]
          exact hy
end Go.Proofs.Ytbgpgdbheajekaa

/-
  Insertion in place, on plain lists. Conditions: none; nothing of the program is named here.
-/
namespace Fl
open Pol (co)

/-- In order from a up to i, but for what stands at j, which is not behind what follows it. -/
def Ins (a i j : Nat) (d : List Nat) : Prop := (∀ p q, a ≤ p → p ≤ q → q ≤ i → p ≠ j → q ≠ j → K (co d p) ≤ K (co d q)) ∧ ∀ q, j < q → q ≤ i → K (co d j) ≤ K (co d q)
theorem Ins.start {a i : Nat} {d : List Nat} (h : SIn a i d) : Ins a i i d := ⟨fun p q h1 h2 h3 h4 h5 => h p q h1 h2 (by omega), fun q h1 h2 => by omega⟩
theorem Ins.stop {a i j : Nat} {d : List Nat} (h : Ins a i j d) (haj : a ≤ j) (hs : j = a ∨ ¬ K (co d j) < K (co d (j - 1))) : SIn a (i + 1) d := fun p q h1 h2 h3 => by
  by_cases c1 : p = j
  · subst c1
    by_cases c2 : q = p
    · subst c2; exact Int.le_refl _
    · exact h.2 q (by omega) (by omega)
  · by_cases c2 : q = j
    · subst c2
      rcases hs with hs | hs
      · omega
      · have := h.1 p (q - 1) h1 (by omega) (by omega) c1 (by omega)
        omega
    · exact h.1 p q h1 h2 (by omega) c1 c2
theorem Ins.step {a i j : Nat} {d : List Nat} (h : Ins a i (j + 1) d) (haj : a ≤ j) (hji : j + 1 ≤ i) (hi : i < d.length) (hl : K (co d (j + 1)) < K (co d j)) : Ins a i j (sw d (j + 1) j) := by
  have s := sw_co (d := d) (i := j + 1) (j := j) (by omega) (by omega)
  constructor
  · intro p q h1 h2 h3 h4 h5
    rw [s, s, if_neg h4, if_neg h5]
    by_cases c1 : p = j + 1
    · subst c1
      rw [if_pos rfl]
      by_cases c2 : q = j + 1
      · subst c2; rw [if_pos rfl]; exact Int.le_refl _
      · rw [if_neg c2]
        exact h.1 j q haj (by omega) h3 (by omega) c2
    · rw [if_neg c1]
      by_cases c2 : q = j + 1
      · subst c2
        rw [if_pos rfl]
        exact h.1 p j h1 (by omega) (by omega) c1 (by omega)
      · rw [if_neg c2]
        exact h.1 p q h1 h2 h3 c1 c2
  · intro q h1 h2
    rw [s, s, if_pos rfl, if_neg (by omega)]
    by_cases c2 : q = j + 1
    · subst c2
      rw [if_pos rfl]
      exact Int.le_of_lt hl
    · rw [if_neg c2]
      exact h.2 q (by omega) h2
end Fl

/-
  The library's insertion sort over rates of a call's own, by a function that tells which one is ahead. Conditions: no more than 2^16 rates.
-/
namespace Go.Proofs.Ytbgpgdbheajekaa
open Go.RowKit
open Pol (co)
open Fl (K sw swr PIn SIn Rot Ins)

/-- The function that compares: below 0 just where the first one is ahead. -/
def CmpOk : Prop := ∀ x y : Nat, x < 18446744073709551616 → y < 18446744073709551616 → ∃ z : Int, (z < 0 ↔ K x < K y) ∧ ∀ w, Calls Try.prog 27 #[.float .f64 x, .float .f64 y] w (Hands (.int .i64 z) w)
abbrev cmpv : Value := .func (.func 27) #[] #[]
theorem perm_f64 {d d' : List Nat} (h : F64 d) (hp : d'.Perm d) : F64 d' := f64_list fun x hx => h.mem x (hp.mem_iff.1 hx)
set_option maxHeartbeats 3200000 in
theorem st_ins (C : CmpOk) (base g n c a b : Nat) (d : List Nat) (w : World) (h : Own w base g n c d) (hf : F64 d) (h1 : a ≤ b) (h2 : b ≤ n) (hn : n ≤ 65536) :
    Calls Try.prog 33 #[.slice (some ⟨g, 0, none⟩) n c, .int .i64 (a : Int), .int .i64 (b : Int), cmpv] w (Lves (fun d' => SIn a b d' ∧ PIn a b d d') base g n c w) := by
  have hst := fun W p m x => run_store Try.prog W p (.float .f64 x) m rfl
  have H := Lib.hid h
  have HF := Lib.hid hf
  have HN := Lib.hid h.len
  clear h hf
  go_enter Try.func33, Try.ntmps33
  go_wp2
  go_loopg [8] (b - a) (fun q s wx => ∃ i : Nat, s = .int .i64 (i : Int) ∧ a < i ∧ i ≤ b + 1 ∧ b ≤ i + q ∧ w.grownBy wx (some g) ∧ ∃ x, Own wx base g n c x ∧ PIn a b d x ∧ SIn a i x)
  case atStart => exact ⟨a + 1, by go_num, by omega, by omega, by omega, grown_refl _ _, d, H.out, PIn.refl .., SIn.one (by omega)⟩
  case round =>
    obtain ⟨i, rfl, hai, hib, hq, hg, x, ho, hp, hs⟩ := hrel
    have HG := Lib.hid hg
    have HO := Lib.hid ho
    have HP := Lib.hid hp
    have HS := Lib.hid hs
    clear hg ho hp hs
    by_cases hlt : i < b
    · have hltz : (i : Int) < (b : Int) := by omega
      obtain ⟨wo, hwo⟩ : ∃ wq, wq = wr := ⟨_, rfl⟩
      subst hwo
      go_wp2
      go_loopg [9] i (fun j s wx => s = .int .i64 (j : Int) ∧ a ≤ j ∧ j ≤ i ∧ w.grownBy wx (some g) ∧ ∃ y, Own wx base g n c y ∧ PIn a b d y ∧ Ins a i j y)
      case atStart => exact ⟨rfl, by omega, Nat.le_refl _, HG.out, x, HO.out, HP.out, Ins.start HS.out⟩
      case round =>
        obtain ⟨rfl, haj, hji, hg2, y, ho2, hp2, hi2⟩ := hrel
        have HG2 := Lib.hid hg2
        have HO2 := Lib.hid ho2
        have HP2 := Lib.hid hp2
        have HI2 := Lib.hid hi2
        clear hg2 ho2 hp2 hi2
        by_cases hja : a < gk
        · obtain ⟨jp, rfl⟩ : ∃ jp, gk = jp + 1 := ⟨gk - 1, by omega⟩
          obtain ⟨c1, f1⟩ := HO2.out.cell (i := jp + 1) (by omega)
          obtain ⟨c2, f2⟩ := HO2.out.cell (i := jp) (by omega)
          obtain ⟨z, hz, HCC⟩ := C (co y (jp + 1)) (co y jp) (perm_f64 HF.out HP2.out.perm (jp + 1)) (perm_f64 HF.out HP2.out.perm jp)
          have HC := Lib.hid HCC
          have HZ := Lib.hid hz
          have hjaz : (a : Int) < (jp : Int) + 1 := by omega
          have hjaz2 : decide ((jp : Int) + 1 > (a : Int)) = true := decide_eq_true (by omega)
          have jz : (jp : Int) + 1 < (n : Int) := by omega
          have jz1 : (jp : Int) < (n : Int) := by omega
          have e0 : ((jp : Int) + 1).toNat = jp + 1 := by omega
          have e1 : (jp : Int) + 1 - 1 = (jp : Int) := by omega
          obtain ⟨v1, hv1⟩ : ∃ v, co y (jp + 1) = v := ⟨_, rfl⟩
          obtain ⟨v2, hv2⟩ : ∃ v, co y jp = v := ⟨_, rfl⟩
          rw [hv1] at c1 HC
          rw [hv2] at c2 HC
          have HV := Lib.hid (And.intro hv1 hv2)
          clear hz HCC hv1 hv2
          by_cases hneg : z < 0
          · have dz : decide (z < 0) = true := decide_eq_true hneg
            go_wp2
            go_quiet (first | (go_at_call 27; exact quiet_hands (HC.out _)))
            have HG3 := Lib.hid (grown_drewN HG2.out nq)
            have HO3 := Lib.hid (HO2.out.drewN nq)
            have c1' : (wr.drewN nq).cell? ⟨g, jp + 1, none⟩ = some (.float .f64 v1) := c1
            have c2' : (wr.drewN nq).cell? ⟨g, jp, none⟩ = some (.float .f64 v2) := c2
            have f1' : (wr.drewN nq).frozen? ⟨g, jp + 1, none⟩ = false := f1
            have f2' : (wr.drewN nq).frozen? ⟨g, jp, none⟩ = false := f2
            clear c1 c2 f1 f2 HO2 HG2
            generalize wr.drewN nq = wq at *
            obtain ⟨j1, hj1⟩ : ∃ j1, j1 = jp + 1 := ⟨_, rfl⟩
            rw [← hj1] at c1' f1' e0
            have hne : j1 ≠ jp := by omega
            have J1 := Lib.hid hj1
            clear hj1
            go_wp2
            go_big_region
            all_goals go_wp2
            go_roundg jp
            case measure => omega
            case rel =>
              have hl : K (co y (jp + 1)) < K (co y jp) := HZ.out.1 hneg
              refine ⟨by go_num, by omega, by omega, grown_put (grown_put (grown_drewN HG3.out 1) _ _) _ _, _, swap_own (i := j1) (j := jp) (HO3.out.drewN 1) HV.out.2 (by rw [J1.out]; exact HV.out.1), ?_, ?_⟩
              · rw [J1.out]
                exact HP2.out.trans (PIn.swap (by omega) (by omega) (by omega) (by omega) (by rw [HO3.out.len]; exact h2))
              · rw [J1.out]
                exact HI2.out.step (by omega) (by omega) (by rw [HO3.out.len]; omega) hl
          · have dz : decide (z < 0) = false := decide_eq_false hneg
            go_wp2
            go_quiet (first | (go_at_call 27; exact quiet_hands (HC.out _)))
            go_wp2
            go_roundg (b - (i + 1))
            case measure => omega
            case rel => exact ⟨i + 1, by go_num, by omega, by omega, by omega, grown_drewN HG2.out nq, y, HO2.out.drewN nq, HP2.out, HI2.out.stop (by omega) (.inr (fun hh => absurd (HZ.out.2 (by simpa using hh)) (by omega)))⟩
        · obtain rfl : gk = a := by omega
          have hjaz : decide ((gk : Int) > (gk : Int)) = false := decide_eq_false (by omega)
          have hjaz' : ¬ (gk : Int) < (gk : Int) := by omega
          go_wp2
          go_quiet (fail)
          go_wp2
          go_roundg (b - (i + 1))
          case measure => omega
          case rel => exact ⟨i + 1, by go_num, by omega, by omega, by omega, grown_drewN HG2.out nq, y, HO2.out.drewN nq, HP2.out, HI2.out.stop (Nat.le_refl _) (.inl rfl)⟩
    · have hltz : ¬ (i : Int) < (b : Int) := by omega
      go_wp2
      go_end0
      exact ⟨rfl, x, ⟨HS.out.sub (Nat.le_refl _) (by omega), HP.out⟩, HO.out, HG.out⟩
end Go.Proofs.Ytbgpgdbheajekaa

/-
  Merging in place, on plain lists. Conditions: none; nothing of the program is named here.
-/
namespace Fl
open Pol (co)

/-- What stands at a goes k places to the right; what stands at m goes k places to the left. -/
def lft (d : List Nat) (a : Nat) : Nat → List Nat
  | 0 => d
  | k + 1 => sw (lft d a k) (a + k) (a + k + 1)
def rgt (d : List Nat) (m : Nat) : Nat → List Nat
  | 0 => d
  | k + 1 => sw (rgt d m k) (m - k) (m - k - 1)
theorem lft_len (d : List Nat) (a k : Nat) : (lft d a k).length = d.length := by
  induction k with
  | zero => rfl
  | succ k ih => unfold lft; rw [sw_len, ih]
theorem rgt_len (d : List Nat) (a k : Nat) : (rgt d a k).length = d.length := by
  induction k with
  | zero => rfl
  | succ k ih => unfold rgt; rw [sw_len, ih]
theorem lft_co {d : List Nat} {a : Nat} : ∀ {k : Nat}, a + k < d.length → ∀ p, co (lft d a k) p = if a ≤ p ∧ p < a + k then co d (p + 1) else if p = a + k then co d a else co d p
  | 0, _, p => by
    rw [if_neg (by omega)]
    split
    · rename_i h; subst h; rfl
    · rfl
  | k + 1, h, p => by
    unfold lft
    rw [sw_co (by rw [lft_len]; omega) (by rw [lft_len]; omega), lft_co (by omega), lft_co (by omega), lft_co (by omega)]
    by_cases c1 : p = a + k + 1
    · rw [if_pos c1, if_neg (by omega), if_pos rfl, if_neg (by omega), if_pos (by omega)]
    · rw [if_neg c1]
      by_cases c2 : p = a + k
      · rw [if_pos c2, if_neg (by omega), if_neg (by omega), if_pos (by omega)]
        congr 1
        omega
      · rw [if_neg c2, if_neg c2]
        by_cases c3 : a ≤ p ∧ p < a + k
        · rw [if_pos c3, if_pos (by omega)]
        · rw [if_neg c3, if_neg (by omega), if_neg (by omega)]
theorem rgt_co {d : List Nat} {m : Nat} : ∀ {k : Nat}, k ≤ m → m < d.length → ∀ p, co (rgt d m k) p = if m - k < p ∧ p ≤ m then co d (p - 1) else if p = m - k then co d m else co d p
  | 0, _, _, p => by
    rw [if_neg (by omega)]
    split
    · rename_i h; rw [show p = m by omega]; rfl
    · rfl
  | k + 1, h, hm, p => by
    unfold rgt
    rw [sw_co (by rw [rgt_len]; omega) (by rw [rgt_len]; omega), rgt_co (by omega) hm, rgt_co (by omega) hm, rgt_co (by omega) hm]
    by_cases c1 : p = m - k - 1
    · rw [if_pos c1, if_neg (by omega), if_pos rfl, if_neg (by omega), if_pos (by omega)]
    · rw [if_neg c1]
      by_cases c2 : p = m - k
      · rw [if_pos c2, if_neg (by omega), if_neg (by omega), if_pos (by omega)]
        congr 1
        omega
      · rw [if_neg c2, if_neg c2]
        by_cases c3 : m - k < p ∧ p ≤ m
        · rw [if_pos c3, if_pos (by omega)]
        · rw [if_neg c3, if_neg (by omega), if_neg (by omega)]
theorem lft_pin {d : List Nat} {a x y : Nat} : ∀ {k : Nat}, x ≤ a → a + k < y → y ≤ d.length → PIn x y d (lft d a k)
  | 0, _, _, _ => PIn.refl ..
  | k + 1, h1, h2, h3 => (lft_pin (k := k) h1 (by omega) h3).trans (PIn.swap (by omega) (by omega) (by omega) (by omega) (by rw [lft_len]; exact h3))
theorem rgt_pin {d : List Nat} {m x y : Nat} : ∀ {k : Nat}, x + k ≤ m → m < y → y ≤ d.length → PIn x y d (rgt d m k)
  | 0, _, _, _ => PIn.refl ..
  | k + 1, h1, h2, h3 => (rgt_pin (k := k) (by omega) h2 h3).trans (PIn.swap (by omega) (by omega) (by omega) (by omega) (by rw [rgt_len]; exact h3))
/-- One on the left is put in. -/
theorem lft_sin {d : List Nat} {a b i : Nat} (hb : b ≤ d.length) (hi : a + 1 ≤ i) (hib : i ≤ b) (hs : SIn (a + 1) b d) (hl : ∀ p, a + 1 ≤ p → p < i → K (co d p) < K (co d a)) (hr : ∀ p, i ≤ p → p < b → K (co d a) ≤ K (co d p)) : SIn a b (lft d a (i - (a + 1))) := fun p q h1 h2 h3 => by
  have s := lft_co (d := d) (a := a) (k := i - (a + 1)) (by omega)
  rw [s, s]
  by_cases c1 : a ≤ p ∧ p < a + (i - (a + 1))
  · rw [if_pos c1]
    by_cases c2 : a ≤ q ∧ q < a + (i - (a + 1))
    · rw [if_pos c2]; exact hs _ _ (by omega) (by omega) (by omega)
    · rw [if_neg c2]
      by_cases c3 : q = a + (i - (a + 1))
      · rw [if_pos c3]; exact Int.le_of_lt (hl _ (by omega) (by omega))
      · rw [if_neg c3]; exact hs _ _ (by omega) (by omega) (by omega)
  · rw [if_neg c1, if_neg (show ¬ (a ≤ q ∧ q < a + (i - (a + 1))) by omega)]
    by_cases c4 : p = a + (i - (a + 1))
    · rw [if_pos c4]
      by_cases c3 : q = a + (i - (a + 1))
      · rw [if_pos c3]; exact Int.le_refl _
      · rw [if_neg c3]; exact hr _ (by omega) (by omega)
    · rw [if_neg c4, if_neg (by omega)]; exact hs _ _ (by omega) (by omega) (by omega)
/-- One on the right is put in. -/
theorem rgt_sin {d : List Nat} {a m i : Nat} (hm : m < d.length) (hi : a ≤ i) (him : i ≤ m) (hs : SIn a m d) (hl : ∀ p, a ≤ p → p < i → K (co d p) ≤ K (co d m)) (hr : ∀ p, i ≤ p → p < m → K (co d m) < K (co d p)) : SIn a (m + 1) (rgt d m (m - i)) := fun p q h1 h2 h3 => by
  have s := rgt_co (d := d) (m := m) (k := m - i) (by omega) hm
  rw [s, s]
  by_cases c1 : m - (m - i) < p ∧ p ≤ m
  · rw [if_pos c1, if_pos (by omega)]; exact hs _ _ (by omega) (by omega) (by omega)
  · rw [if_neg c1]
    by_cases c4 : p = m - (m - i)
    · rw [if_pos c4]
      by_cases c2 : m - (m - i) < q ∧ q ≤ m
      · rw [if_pos c2]; exact Int.le_of_lt (hr _ (by omega) (by omega))
      · rw [if_neg c2, if_pos (by omega)]; exact Int.le_refl _
    · rw [if_neg c4]
      by_cases c2 : m - (m - i) < q ∧ q ≤ m
      · rw [if_pos c2]; exact hs _ _ (by omega) (by omega) (by omega)
      · rw [if_neg c2]
        by_cases c3 : q = m - (m - i)
        · rw [if_pos c3]; exact hl _ (by omega) (by omega)
        · rw [if_neg c3]; exact hs _ _ (by omega) (by omega) (by omega)
theorem Rot.none {a m b : Nat} (d : List Nat) (h : a = m ∨ b = m) (h1 : a ≤ m) (h2 : m ≤ b) : Rot a m b d d := fun p => by
  by_cases c1 : p < a ∨ b ≤ p
  · rw [if_pos c1]
  · rw [if_neg c1]
    rcases h with rfl | rfl
    · rw [if_pos (by omega)]
      congr 1
      omega
    · rw [if_neg (by omega)]
      congr 1
      omega
/-- What the search for the place of the cut leaves. -/
structure Cutp (a m b mid s : Nat) (d : List Nat) : Prop where
  lo : a ≤ s
  lo2 : mid + m ≤ b + s
  hm : s ≤ m
  hmid : s ≤ mid
  left : a < s → mid + m < b + s → K (co d (s - 1)) ≤ K (co d (mid + m - s))
  right : s < m → s < mid → K (co d (mid + m - s - 1)) < K (co d s)
/-- Behind the turn: four stretches in order, the two on the left not behind the two on the right. -/
theorem Cutp.parts {a m b mid s : Nat} {d d' : List Nat} (h : Cutp a m b mid s d) (ham : a < m) (hmb : m < b) (h1 : SIn a m d) (h2 : SIn m b d) (hr : Rot s m (mid + m - s) d d') :
    SIn a s d' ∧ SIn s mid d' ∧ SIn mid (mid + m - s) d' ∧ SIn (mid + m - s) b d' ∧ ∀ p q, a ≤ p → p < mid → mid ≤ q → q < b → K (co d' p) ≤ K (co d' q) := by
  obtain ⟨lo, lo2, hm, hmid, hl, hri⟩ := h
  have w1 : ∀ p, p < s ∨ mid + m - s ≤ p → co d' p = co d p := fun p hp => by rw [hr p, if_pos hp]
  have w2 : ∀ p, s ≤ p → p < mid → co d' p = co d (p + (m - s)) := fun p k1 k2 => by rw [hr p, if_neg (by omega), if_pos (by omega)]
  have w3 : ∀ p, mid ≤ p → p < mid + m - s → co d' p = co d (p - (mid - s)) := fun p k1 k2 => by
    rw [hr p, if_neg (by omega), if_neg (by omega)]
    congr 1
    omega
  refine ⟨fun p q k1 k2 k3 => ?_, fun p q k1 k2 k3 => ?_, fun p q k1 k2 k3 => ?_, fun p q k1 k2 k3 => ?_, fun p q k1 k2 k3 k4 => ?_⟩
  · rw [w1 p (by omega), w1 q (by omega)]; exact h1 _ _ k1 k2 (by omega)
  · rw [w2 p (by omega) (by omega), w2 q (by omega) (by omega)]; exact h2 _ _ (by omega) (by omega) (by omega)
  · rw [w3 p (by omega) (by omega), w3 q (by omega) (by omega)]; exact h1 _ _ (by omega) (by omega) (by omega)
  · rw [w1 p (by omega), w1 q (by omega)]; exact h2 _ _ (by omega) k2 k3
  · by_cases c1 : p < s
    · rw [w1 p (by omega)]
      by_cases c2 : q < mid + m - s
      · rw [w3 q k3 c2]; exact h1 _ _ k1 (by omega) (by omega)
      · rw [w1 q (by omega)]
        have e1 := hl (by omega) (by omega)
        have e2 := h1 p (s - 1) k1 (by omega) (by omega)
        have e3 := h2 (mid + m - s) q (by omega) (by omega) k4
        omega
    · rw [w2 p (by omega) k2]
      by_cases c2 : q < mid + m - s
      · rw [w3 q k3 c2]
        have e1 := hri (by omega) (by omega)
        have e2 := h2 (p + (m - s)) (mid + m - s - 1) (by omega) (by omega) (by omega)
        have e3 := h1 s (q - (mid - s)) (by omega) (by omega) (by omega)
        omega
      · rw [w1 q (by omega)]; exact h2 _ _ (by omega) (by omega) k4
theorem cross_keep {a m b : Nat} {d d1 d2 : List Nat} (h1 : PIn a m d d1) (h2 : PIn m b d1 d2) (hx : ∀ p q, a ≤ p → p < m → m ≤ q → q < b → K (co d p) ≤ K (co d q)) : ∀ p q, a ≤ p → p < m → m ≤ q → q < b → K (co d2 p) ≤ K (co d2 q) := fun p q k1 k2 k3 k4 => by
  obtain ⟨j, j1, j2, e⟩ := h1.inn p k1 k2
  obtain ⟨l, l1, l2, e'⟩ := h2.inn q k3 k4
  rw [h2.out p (by omega), e, e', h1.out l (by omega)]
  exact hx j l j1 j2 l1 l2
theorem up_of {d : List Nat} (h : SIn 0 d.length d) : Up d := List.pairwise_iff_getElem.2 fun i j hi hj hij => by
  have := h i j (Nat.zero_le _) (by omega) hj
  unfold co at this
  rwa [List.getElem?_eq_getElem hi, List.getElem?_eq_getElem hj] at this
end Fl
