/-
  Part 2 of the texts that the seat's proofs stand on; each part of it begins with its own sentence and conditions. Conditions: those that each theorem names.
-/
import Derived.Test.YtbgpgdbheajekaaRatesPack1
import Derived.Maps.AppendAt

/-
  The document's answers of layer 15: Rate, Round. Conditions: none.
-/
namespace Go.Proofs.Ytbgpgdbheajekaa
open Go.RowKit
open Fl (K v rung sgn IsNan RndOk rnd sg rq S U)

theorem run_quo_none {P : Program} (w : World) (t : TypeId) (x y : Nat) (h : floatBits .quo .f64 x y = none) : (binOp .quo t (.float .f64 x) (.float .f64 y)).run P w = .ok (.float .f64 ((Question.nanBits .f64 x y).cut (w.tape w.drawn (.nanBits .f64 x y)))) w.drew := by
  have h' : FloatKind.f64.format.div x y = none := h
  simp [binOp, Op.floatArith, h', Question.forced]
theorem cut_nan (x y t : Nat) : IsNan ((Question.nanBits .f64 x y).cut t) ∧ (Question.nanBits .f64 x y).cut t < 18446744073709551616 := by
  have e : (Question.nanBits .f64 x y).cut t = (t % 2) * 9223372036854775808 + 9218868437227405312 + 1 + (t / 2) % 4503599627370495 := rfl
  have h1 : t % 2 < 2 := Nat.mod_lt _ (by omega)
  have h2 : (t / 2) % 4503599627370495 < 4503599627370495 := Nat.mod_lt _ (by omega)
  unfold Fl.IsNan Fl.rung
  rw [e]
  generalize t % 2 = a at *
  generalize (t / 2) % 4503599627370495 = b at *
  have h3 : a = 0 ∨ a = 1 := by omega
  rcases h3 with rfl | rfl
  · exact ⟨by omega, by omega⟩
  · exact ⟨by omega, by omega⟩
/-- Odd and even, of either sign. -/
theorem tmod_two (q : Nat) : Int.tmod (q : Int) 2 = ((q % 2 : Nat) : Int) ∧ Int.tmod (-(q : Int)) 2 = -((q % 2 : Nat) : Int) := by
  have h : Int.tmod (q : Int) 2 = ((q % 2 : Nat) : Int) := rfl
  exact ⟨h, by rw [Int.neg_tmod, h]⟩
/-- A quotient, whatever it is. -/
theorem quo_any (x y : Nat) : ∃ f : World → Nat, ∃ n : Nat, (∀ (P : Program) (w : World) (t : TypeId), (binOp .quo t (.float .f64 x) (.float .f64 y)).run P w = .ok (.float .f64 (f w)) (w.drewN n)) ∧ ∀ w, f w < 18446744073709551616 ∧ K (f w) = match floatBits .quo .f64 x y with | some q => K q | none => 9218868437227405313 := by
  cases h : floatBits .quo .f64 x y with
  | none => exact ⟨fun w => (Question.nanBits .f64 x y).cut (w.tape w.drawn (.nanBits .f64 x y)), 1, fun P w t => run_quo_none w t x y h, fun w => ⟨(cut_nan x y _).2, Fl.K_nan.1 (cut_nan x y _).1⟩⟩
  | some q => exact ⟨fun _ => q, 0, fun P w t => run_float_arith (P := P) w .quo t .f64 x y q h, fun _ => ⟨by have := floatBits_wf h; simpa [Lit.wf] using this, rfl⟩⟩
/-- A call of Rate. -/
def RateR (fee : Nat) (n : Int) (w : World) (e : Ending) (w' : World) : Prop := ∃ r m, e = .returned (.float .f64 r) ∧ r < 18446744073709551616 ∧ Fl.IsRate fee n r ∧ w' = w.drewN m
theorem ref15_rate (fee : Nat) (n : Int) (w : World) : Calls Try.prog 17 #[.int .u64 (fee : Int), .int .i64 n] w (RateR fee n w) := by
  have c1 := fun W n => run_convert_int_float (P := Try.prog) W 23 22 .u64 .f64 n (by kernel_rfl) Try.underlying22
  have c2 := fun W n => run_convert_int_float (P := Try.prog) W 3 22 .i64 .f64 n (by kernel_rfl) Try.underlying22
  obtain ⟨f, m, h1, h2⟩ := quo_any (floatOfInt .f64 (fee : Int)) (floatOfInt .f64 n)
  have h1' := h1 Try.prog
  have H2 := Lib.hid (show ∀ w, f w < 18446744073709551616 ∧ Fl.IsRate fee n (f w) from h2)
  clear h1 h2
  go_enter Try.func17, Try.ntmps17
  go_wp2
  go_ret
  exact ⟨_, m, rfl, (H2.out _).1, (H2.out _).2, rfl⟩
theorem c53 : rung 4845873199050653696 = 4845873199050653696 ∧ v 4845873199050653696 = ((9007199254740992 * U : Nat) : Int) ∧ ¬ IsNan 4845873199050653696 := by
  have h : rung 4845873199050653696 = 4845873199050653696 := by unfold Fl.rung; omega
  refine ⟨h, ?_, Fl.nan_fin (by rw [h]; omega)⟩
  unfold Fl.v
  rw [h, Fl.S_53, show sgn 4845873199050653696 = false by unfold Fl.sgn; rw [show 4845873199050653696 / 9223372036854775808 = 0 by omega]; rfl]
  rfl
theorem n53 : v 14069245235905429504 = -((9007199254740992 * U : Nat) : Int) ∧ ¬ IsNan 14069245235905429504 := by
  have h : rung 14069245235905429504 = 4845873199050653696 := by unfold Fl.rung; omega
  refine ⟨?_, Fl.nan_fin (by rw [h]; omega)⟩
  unfold Fl.v
  rw [h, Fl.S_53, show sgn 14069245235905429504 = true by unfold Fl.sgn; rw [show 14069245235905429504 / 9223372036854775808 = 1 by omega]; rfl]
  rfl
theorem chalf : 2 * v 4602678819172646912 = (U : Int) ∧ ¬ IsNan 4602678819172646912 := by
  have h : rung 4602678819172646912 = 4602678819172646912 := by unfold Fl.rung; omega
  refine ⟨?_, Fl.nan_fin (by rw [h]; omega)⟩
  have hh := Fl.S_half
  unfold Fl.v
  rw [h, show sgn 4602678819172646912 = false by unfold Fl.sgn; rw [show 4602678819172646912 / 9223372036854775808 = 0 by omega]; rfl]
  show 2 * ((S 4602678819172646912 : Nat) : Int) = _
  generalize S 4602678819172646912 = z at *
  omega
theorem nhalf : 2 * v 13826050856027422720 = -(U : Int) ∧ ¬ IsNan 13826050856027422720 := by
  have h : rung 13826050856027422720 = 4602678819172646912 := by unfold Fl.rung; omega
  refine ⟨?_, Fl.nan_fin (by rw [h]; omega)⟩
  have hh := Fl.S_half
  unfold Fl.v
  rw [h, show sgn 13826050856027422720 = true by unfold Fl.sgn; rw [show 13826050856027422720 / 9223372036854775808 = 1 by omega]; rfl]
  show 2 * -((S 4602678819172646912 : Nat) : Int) = _
  generalize S 4602678819172646912 = z at *
  omega
/-- Up to 2^53: by the order's tests. -/
theorem ok_lt {x : Nat} : RndOk x ↔ ¬ v 4845873199050653696 < v x ∧ ¬ v x < v 14069245235905429504 := by
  rw [c53.2.1, n53.1, ← Fl.S_53]
  have h1 := Fl.S_lt (a := 4845873199050653696) (b := rung x)
  unfold Fl.RndOk Fl.v
  split <;> omega
theorem run_neg_float {P : Program} (w : World) (k : FloatKind) (b : Nat) : (Op.unary .neg (.float k b)).run P w = .ok (.float k (Op.negFloat k b)) w := by simp [Op.unary]
theorem neg53 : Op.negFloat .f64 4845873199050653696 = 14069245235905429504 := by decide +kernel
/-- What is left of a number by its whole part. -/
theorem trunc_left {x : Nat} (h : RndOk x) : ∃ q t d : Nat, q = S (rung x) / U ∧ t = S (rung x) % U ∧ q ≤ 9007199254740992 ∧ (t ≠ 0 → q < 9007199254740992) ∧ floatToIntVal .f64 x .i64 = some (sg x q) ∧ floatBits .sub .f64 x (floatOfInt .f64 (sg x q)) = some d ∧ ¬ IsNan d ∧ v d = sg x t := by
  have hb := Fl.div_bound h.le
  obtain ⟨d, h1, h2, h3, _⟩ := Fl.left_is h (.inl rfl)
  refine ⟨_, _, d, rfl, rfl, hb.1, fun h0 => hb.2 h0, Fl.trunc_is h.le h.fin, h1, h3, ?_⟩
  rw [h2, Fl.sg_v]
  have hd := Nat.div_add_mod (S (rung x)) U
  rw [Nat.mul_comm] at hd
  unfold Fl.sg
  generalize S (rung x) % U = t at *
  split
  · rw [Int.neg_mul, ← Int.natCast_mul]; omega
  · rw [← Int.natCast_mul]; omega
/-- A call of Round. -/
def RoundV (x : Nat) : Value := .tuple #[.int .i64 (rnd x), .bool (decide (RndOk x))]
set_option maxHeartbeats 1600000 in
theorem ref15_round (x : Nat) (w : World) : Calls Try.prog 11 #[.float .f64 x] w (Hands (RoundV x) w) := by
  have HA := Lib.hid (ref15_nan x)
  have eN : ∀ W, (Op.unary .neg (.float .f64 4845873199050653696)).run Try.prog W = .ok (.float .f64 14069245235905429504) W := fun W => by rw [run_neg_float, neg53]
  have c1 := fun W n => run_convert_int_float (P := Try.prog) W 3 22 .i64 .f64 n (by kernel_rfl) Try.underlying22
  unfold RoundV
  by_cases hk : RndOk x
  · rw [decide_eq_true hk, Fl.rnd_ok hk]
    have hn := Fl.nan_fin hk.fin
    rw [decide_eq_false hn] at HA
    have g1 : (FloatKind.f64.format.order x 4845873199050653696 == some Ordering.gt) = false := by rw [Fl.gt_is]; exact decide_eq_false (fun h => (ok_lt.1 hk).1 h.2.2)
    have g2 : (FloatKind.f64.format.order x 14069245235905429504 == some Ordering.lt) = false := by rw [Fl.lt_is]; exact decide_eq_false (fun h => (ok_lt.1 hk).2 h.2.2)
    obtain ⟨q, t, d, hq, ht, hq1, hq2, ht1, hd, hd1, hd2⟩ := trunc_left hk
    have c2 := fun W => run_convert_float_int (P := Try.prog) W 22 3 .f64 .i64 x _ (by kernel_rfl) Try.underlying3 ht1
    have hs := fun W t => run_float_arith (P := Try.prog) W .sub t .f64 _ _ _ hd
    have hr : rq (S (rung x)) = if 2 * t < U ∨ (2 * t = U ∧ q % 2 = 0) then q else q + 1 := by rw [ht, hq]; rfl
    have ch := chalf
    have nh := nhalf
    have f1 := Fl.gt_is d 4602678819172646912
    have f2 := Fl.eq_is d 4602678819172646912
    have f3 := Fl.lt_is d 13826050856027422720
    have f4 := Fl.eq_is d 13826050856027422720
    rw [hd2] at f1 f2 f3 f4
    have hU := Fl.U_pos
    unfold Fl.sg at *
    clear hq ht ht1 hd hk
    have hsp : (2 * t < U ∧ 0 ≤ q) ∨ (2 * t = U ∧ q % 2 = 0) ∨ (2 * t = U ∧ q % 2 = 1) ∨ (U < 2 * t ∧ 0 ≤ q) := by omega
    generalize sgn x = s at *
    cases s <;> simp only [Bool.false_eq_true, if_false, if_true] at *
    · rcases hsp with ⟨p1, p2⟩ | ⟨p1, p2⟩ | ⟨p1, p2⟩ | ⟨p1, p2⟩
      · have e1 : decide (¬ IsNan d ∧ ¬ IsNan 4602678819172646912 ∧ v 4602678819172646912 < (t : Int)) = false := decide_eq_false (fun h => by have := h.2.2; omega)
        rw [e1] at f1
        clear e1
        have e2 : decide (¬ IsNan d ∧ ¬ IsNan 4602678819172646912 ∧ (t : Int) = v 4602678819172646912) = false := decide_eq_false (fun h => by have := h.2.2; omega)
        rw [e2] at f2
        clear e2
        have e3 : decide (¬ IsNan d ∧ ¬ IsNan 13826050856027422720 ∧ (t : Int) < v 13826050856027422720) = false := decide_eq_false (fun h => by have := h.2.2; omega)
        rw [e3] at f3
        clear e3
        have e4 : decide (¬ IsNan d ∧ ¬ IsNan 13826050856027422720 ∧ (t : Int) = v 13826050856027422720) = false := decide_eq_false (fun h => by have := h.2.2; omega)
        rw [e4] at f4
        clear e4
        rw [hr, if_pos (by omega)]
        clear hr hd1 hd2 ch nh p2
        have hb : q ≤ 9007199254740992 := hq1
        clear hq1 hq2 p1 hU
        go_enter Try.func11, Try.ntmps11
        go_wp2_with fail
        refine (HA.out _).mono ?_
        rintro e w1 ⟨rfl, n1, rfl⟩
        go_wp2
        go_ret2
        exact ⟨rfl, _, rfl⟩
      · have e1 : decide (¬ IsNan d ∧ ¬ IsNan 4602678819172646912 ∧ v 4602678819172646912 < (t : Int)) = false := decide_eq_false (fun h => by have := h.2.2; omega)
        rw [e1] at f1
        clear e1
        have e2 : decide (¬ IsNan d ∧ ¬ IsNan 4602678819172646912 ∧ (t : Int) = v 4602678819172646912) = true := decide_eq_true ⟨hd1, ch.2, by omega⟩
        rw [e2] at f2
        clear e2
        have e3 : decide (¬ IsNan d ∧ ¬ IsNan 13826050856027422720 ∧ (t : Int) < v 13826050856027422720) = false := decide_eq_false (fun h => by have := h.2.2; omega)
        rw [e3] at f3
        clear e3
        have e4 : decide (¬ IsNan d ∧ ¬ IsNan 13826050856027422720 ∧ (t : Int) = v 13826050856027422720) = false := decide_eq_false (fun h => by have := h.2.2; omega)
        rw [e4] at f4
        clear e4
        rw [hr, if_pos (by omega)]
        have m1 : (Int.tmod (q : Int) 2 == 0) = true := by
          rw [(tmod_two q).1, p2]; rfl
        have m2 : (Int.tmod (q : Int) 2 != 0) = false := by rw [bne, m1]; rfl
        have m3 : ((q : Int) % 2 == 0) = true := by
          have h : (q : Int) % 2 = 0 := by omega
          rw [h]; rfl
        have m4 : ((q : Int) % 2 != 0) = false := by rw [bne, m3]; rfl
        clear hr hd1 hd2 ch nh p2
        have hb : q ≤ 9007199254740992 := hq1
        clear hq1 hq2 p1 hU
        go_enter Try.func11, Try.ntmps11
        go_wp2_with fail
        refine (HA.out _).mono ?_
        rintro e w1 ⟨rfl, n1, rfl⟩
        go_wp2
        go_ret2
        exact ⟨rfl, _, rfl⟩
      · have e1 : decide (¬ IsNan d ∧ ¬ IsNan 4602678819172646912 ∧ v 4602678819172646912 < (t : Int)) = false := decide_eq_false (fun h => by have := h.2.2; omega)
        rw [e1] at f1
        clear e1
        have e2 : decide (¬ IsNan d ∧ ¬ IsNan 4602678819172646912 ∧ (t : Int) = v 4602678819172646912) = true := decide_eq_true ⟨hd1, ch.2, by omega⟩
        rw [e2] at f2
        clear e2
        have e3 : decide (¬ IsNan d ∧ ¬ IsNan 13826050856027422720 ∧ (t : Int) < v 13826050856027422720) = false := decide_eq_false (fun h => by have := h.2.2; omega)
        rw [e3] at f3
        clear e3
        have e4 : decide (¬ IsNan d ∧ ¬ IsNan 13826050856027422720 ∧ (t : Int) = v 13826050856027422720) = false := decide_eq_false (fun h => by have := h.2.2; omega)
        rw [e4] at f4
        clear e4
        rw [hr, if_neg (by omega)]
        have m1 : (Int.tmod (q : Int) 2 == 0) = false := by
          rw [(tmod_two q).1, p2]; rfl
        have m2 : (Int.tmod (q : Int) 2 != 0) = true := by rw [bne, m1]; rfl
        have m3 : ((q : Int) % 2 == 0) = false := by
          have h : (q : Int) % 2 = 1 := by omega
          rw [h]; rfl
        have m4 : ((q : Int) % 2 != 0) = true := by rw [bne, m3]; rfl
        clear hr hd1 hd2 ch nh p2
        have hb : q ≤ 9007199254740992 := hq1
        have hb2 : q < 9007199254740992 := hq2 (by omega)
        clear hq1 hq2 p1 hU
        go_enter Try.func11, Try.ntmps11
        go_wp2_with fail
        refine (HA.out _).mono ?_
        rintro e w1 ⟨rfl, n1, rfl⟩
        go_wp2
        go_ret2
        exact ⟨by congr 4, _, rfl⟩
      · have e1 : decide (¬ IsNan d ∧ ¬ IsNan 4602678819172646912 ∧ v 4602678819172646912 < (t : Int)) = true := decide_eq_true ⟨hd1, ch.2, by omega⟩
        rw [e1] at f1
        clear e1
        have e2 : decide (¬ IsNan d ∧ ¬ IsNan 4602678819172646912 ∧ (t : Int) = v 4602678819172646912) = false := decide_eq_false (fun h => by have := h.2.2; omega)
        rw [e2] at f2
        clear e2
        have e3 : decide (¬ IsNan d ∧ ¬ IsNan 13826050856027422720 ∧ (t : Int) < v 13826050856027422720) = false := decide_eq_false (fun h => by have := h.2.2; omega)
        rw [e3] at f3
        clear e3
        have e4 : decide (¬ IsNan d ∧ ¬ IsNan 13826050856027422720 ∧ (t : Int) = v 13826050856027422720) = false := decide_eq_false (fun h => by have := h.2.2; omega)
        rw [e4] at f4
        clear e4
        rw [hr, if_neg (by omega)]
        clear hr hd1 hd2 ch nh p2
        have hb : q ≤ 9007199254740992 := hq1
        have hb2 : q < 9007199254740992 := hq2 (by omega)
        clear hq1 hq2 p1 hU
        go_enter Try.func11, Try.ntmps11
        go_wp2_with fail
        refine (HA.out _).mono ?_
        rintro e w1 ⟨rfl, n1, rfl⟩
        go_wp2
        go_ret2
        exact ⟨by congr 4, _, rfl⟩
    · rcases hsp with ⟨p1, p2⟩ | ⟨p1, p2⟩ | ⟨p1, p2⟩ | ⟨p1, p2⟩
      · have e1 : decide (¬ IsNan d ∧ ¬ IsNan 4602678819172646912 ∧ v 4602678819172646912 < -(t : Int)) = false := decide_eq_false (fun h => by have := h.2.2; omega)
        rw [e1] at f1
        clear e1
        have e2 : decide (¬ IsNan d ∧ ¬ IsNan 4602678819172646912 ∧ -(t : Int) = v 4602678819172646912) = false := decide_eq_false (fun h => by have := h.2.2; omega)
        rw [e2] at f2
        clear e2
        have e3 : decide (¬ IsNan d ∧ ¬ IsNan 13826050856027422720 ∧ -(t : Int) < v 13826050856027422720) = false := decide_eq_false (fun h => by have := h.2.2; omega)
        rw [e3] at f3
        clear e3
        have e4 : decide (¬ IsNan d ∧ ¬ IsNan 13826050856027422720 ∧ -(t : Int) = v 13826050856027422720) = false := decide_eq_false (fun h => by have := h.2.2; omega)
        rw [e4] at f4
        clear e4
        rw [hr, if_pos (by omega)]
        clear hr hd1 hd2 ch nh p2
        have hb : q ≤ 9007199254740992 := hq1
        clear hq1 hq2 p1 hU
        go_enter Try.func11, Try.ntmps11
        go_wp2_with fail
        refine (HA.out _).mono ?_
        rintro e w1 ⟨rfl, n1, rfl⟩
        go_wp2
        go_ret2
        exact ⟨rfl, _, rfl⟩
      · have e1 : decide (¬ IsNan d ∧ ¬ IsNan 4602678819172646912 ∧ v 4602678819172646912 < -(t : Int)) = false := decide_eq_false (fun h => by have := h.2.2; omega)
        rw [e1] at f1
        clear e1
        have e2 : decide (¬ IsNan d ∧ ¬ IsNan 4602678819172646912 ∧ -(t : Int) = v 4602678819172646912) = false := decide_eq_false (fun h => by have := h.2.2; omega)
        rw [e2] at f2
        clear e2
        have e3 : decide (¬ IsNan d ∧ ¬ IsNan 13826050856027422720 ∧ -(t : Int) < v 13826050856027422720) = false := decide_eq_false (fun h => by have := h.2.2; omega)
        rw [e3] at f3
        clear e3
        have e4 : decide (¬ IsNan d ∧ ¬ IsNan 13826050856027422720 ∧ -(t : Int) = v 13826050856027422720) = true := decide_eq_true ⟨hd1, nh.2, by omega⟩
        rw [e4] at f4
        clear e4
        rw [hr, if_pos (by omega)]
        have m1 : (Int.tmod (-(q : Int)) 2 == 0) = true := by
          rw [(tmod_two q).2, p2]; rfl
        have m2 : (Int.tmod (-(q : Int)) 2 != 0) = false := by rw [bne, m1]; rfl
        have m3 : ((q : Int) % 2 == 0) = true := by
          have h : (q : Int) % 2 = 0 := by omega
          rw [h]; rfl
        have m4 : ((q : Int) % 2 != 0) = false := by rw [bne, m3]; rfl
        clear hr hd1 hd2 ch nh p2
        have hb : q ≤ 9007199254740992 := hq1
        clear hq1 hq2 p1 hU
        go_enter Try.func11, Try.ntmps11
        go_wp2_with fail
        refine (HA.out _).mono ?_
        rintro e w1 ⟨rfl, n1, rfl⟩
        go_wp2
        go_ret2
        exact ⟨rfl, _, rfl⟩
      · have e1 : decide (¬ IsNan d ∧ ¬ IsNan 4602678819172646912 ∧ v 4602678819172646912 < -(t : Int)) = false := decide_eq_false (fun h => by have := h.2.2; omega)
        rw [e1] at f1
        clear e1
        have e2 : decide (¬ IsNan d ∧ ¬ IsNan 4602678819172646912 ∧ -(t : Int) = v 4602678819172646912) = false := decide_eq_false (fun h => by have := h.2.2; omega)
        rw [e2] at f2
        clear e2
        have e3 : decide (¬ IsNan d ∧ ¬ IsNan 13826050856027422720 ∧ -(t : Int) < v 13826050856027422720) = false := decide_eq_false (fun h => by have := h.2.2; omega)
        rw [e3] at f3
        clear e3
        have e4 : decide (¬ IsNan d ∧ ¬ IsNan 13826050856027422720 ∧ -(t : Int) = v 13826050856027422720) = true := decide_eq_true ⟨hd1, nh.2, by omega⟩
        rw [e4] at f4
        clear e4
        rw [hr, if_neg (by omega)]
        rw [show -((q + 1 : Nat) : Int) = -(q : Int) - 1 by omega]
        have m1 : (Int.tmod (-(q : Int)) 2 == 0) = false := by
          rw [(tmod_two q).2, p2]; rfl
        have m2 : (Int.tmod (-(q : Int)) 2 != 0) = true := by rw [bne, m1]; rfl
        have m3 : ((q : Int) % 2 == 0) = false := by
          have h : (q : Int) % 2 = 1 := by omega
          rw [h]; rfl
        have m4 : ((q : Int) % 2 != 0) = true := by rw [bne, m3]; rfl
        clear hr hd1 hd2 ch nh p2
        have hb : q ≤ 9007199254740992 := hq1
        have hb2 : q < 9007199254740992 := hq2 (by omega)
        clear hq1 hq2 p1 hU
        go_enter Try.func11, Try.ntmps11
        go_wp2_with fail
        refine (HA.out _).mono ?_
        rintro e w1 ⟨rfl, n1, rfl⟩
        go_wp2
        go_ret2
        exact ⟨rfl, _, rfl⟩
      · have e1 : decide (¬ IsNan d ∧ ¬ IsNan 4602678819172646912 ∧ v 4602678819172646912 < -(t : Int)) = false := decide_eq_false (fun h => by have := h.2.2; omega)
        rw [e1] at f1
        clear e1
        have e2 : decide (¬ IsNan d ∧ ¬ IsNan 4602678819172646912 ∧ -(t : Int) = v 4602678819172646912) = false := decide_eq_false (fun h => by have := h.2.2; omega)
        rw [e2] at f2
        clear e2
        have e3 : decide (¬ IsNan d ∧ ¬ IsNan 13826050856027422720 ∧ -(t : Int) < v 13826050856027422720) = true := decide_eq_true ⟨hd1, nh.2, by omega⟩
        rw [e3] at f3
        clear e3
        have e4 : decide (¬ IsNan d ∧ ¬ IsNan 13826050856027422720 ∧ -(t : Int) = v 13826050856027422720) = false := decide_eq_false (fun h => by have := h.2.2; omega)
        rw [e4] at f4
        clear e4
        rw [hr, if_neg (by omega)]
        rw [show -((q + 1 : Nat) : Int) = -(q : Int) - 1 by omega]
        clear hr hd1 hd2 ch nh p2
        have hb : q ≤ 9007199254740992 := hq1
        have hb2 : q < 9007199254740992 := hq2 (by omega)
        clear hq1 hq2 p1 hU
        go_enter Try.func11, Try.ntmps11
        go_wp2_with fail
        refine (HA.out _).mono ?_
        rintro e w1 ⟨rfl, n1, rfl⟩
        go_wp2
        go_ret2
        exact ⟨rfl, _, rfl⟩
  · rw [decide_eq_false hk, Fl.rnd_no hk]
    by_cases hn : IsNan x
    · rw [decide_eq_true hn] at HA
      go_enter Try.func11, Try.ntmps11
      go_wp2_with fail
      refine (HA.out _).mono ?_
      rintro e w1 ⟨rfl, n1, rfl⟩
      go_wp2
      go_ret2
      exact ⟨rfl, _, rfl⟩
    · rw [decide_eq_false hn] at HA
      have ho := fun h => hk (ok_lt.2 h)
      by_cases g : v 4845873199050653696 < v x
      · have g1 : (FloatKind.f64.format.order x 4845873199050653696 == some Ordering.gt) = true := by rw [Fl.gt_is]; exact decide_eq_true ⟨hn, c53.2.2, g⟩
        clear ho g
        go_enter Try.func11, Try.ntmps11
        go_wp2_with fail
        refine (HA.out _).mono ?_
        rintro e w1 ⟨rfl, n1, rfl⟩
        go_wp2
        go_ret2
        exact ⟨rfl, _, rfl⟩
      · have g1 : (FloatKind.f64.format.order x 4845873199050653696 == some Ordering.gt) = false := by rw [Fl.gt_is]; exact decide_eq_false (fun h => g h.2.2)
        have g2 : (FloatKind.f64.format.order x 14069245235905429504 == some Ordering.lt) = true := by rw [Fl.lt_is]; exact decide_eq_true ⟨hn, n53.2, Decidable.byContradiction fun h => ho ⟨g, h⟩⟩
        clear ho g
        go_enter Try.func11, Try.ntmps11
        go_wp2_with fail
        refine (HA.out _).mono ?_
        rintro e w1 ⟨rfl, n1, rfl⟩
        go_wp2
        go_ret2
        exact ⟨rfl, _, rfl⟩
end Go.Proofs.Ytbgpgdbheajekaa

/-
  Slices of float64 that read as a list; of a call's own: appended to, written. Conditions: the lengths add up to no more than 2^40.
-/
namespace Go.Proofs.Ytbgpgdbheajekaa
open Go.RowKit
open Pol (co)

theorem addr_add15 (b o j : Nat) : (⟨b, o, none⟩ : Addr).add j = ⟨b, o + j, none⟩ := Addr.add_mid b o j
theorem f64_info : (Try.prog.info? 22).map (fun i => (i.zero, i.size, i.bytes)) = some (some (.float .f64 0), 1, 8) := by kernel_rfl
def fv (l : List Nat) : List Value := l.map fun x : Nat => Value.float .f64 x
theorem fv_len (l : List Nat) : (fv l).length = l.length := by simp [fv]
theorem fv_at (l : List Nat) (i : Nat) (h : i < l.length) : (fv l)[i]? = some (.float .f64 (co l i)) := by simp [fv, co, List.getElem?_eq_getElem h]
theorem fv_one (l : List Nat) : ∀ u ∈ fv l, u.oneCell' = true := by
  intro u hu
  obtain ⟨x, _, rfl⟩ := List.mem_map.1 hu
  rfl
theorem fv_append (l m : List Nat) : fv (l ++ m) = fv l ++ fv m := by simp [fv]
/-- Each is a number of 64 bits. -/
def F64 (l : List Nat) : Prop := ∀ i, co l i < 18446744073709551616
/-- From address A on lie the numbers l. -/
def FRd (w : World) (A : Option Addr) (l : List Nat) : Prop := F64 l ∧ ∀ i, i < l.length → ∃ b o, A = some ⟨b, o, none⟩ ∧ w.cell? ⟨b, o + i, none⟩ = some (.float .f64 (co l i))
theorem FRd.ext {w w' : World} {A : Option Addr} {l : List Nat} (h : FRd w A l) (hx : Ext w w') : FRd w' A l := ⟨h.1, fun i hi => by
  obtain ⟨b, o, e, hc⟩ := h.2 i hi
  exact ⟨b, o, e, (hx.below.cell (p := ⟨b, o + i, none⟩) (block_lt_of_cell hc)).trans hc⟩⟩
theorem FRd.nil (w : World) (A : Option Addr) : FRd w A [] := ⟨fun i => by unfold co; simp, fun i hi => absurd hi (by simp)⟩
/-- A slice of numbers of the call's own. -/
def FMine (w : World) (base : Nat) (v : Value) (l : List Nat) : Prop := w.ownsRow base 22 1 v l.length (fv l)
theorem FMine.nil (w : World) (base : Nat) : FMine w base (.slice none 0 0) [] := World.ownsRow_nil w base _ _
theorem fmine_empty (w : World) : FMine (w.alloc (.cells #[] 22)) w.heap.size (.slice (some ⟨w.heap.size, 0, none⟩) 0 0) [] := World.ownsRow_lit w #[] 0 (Nat.le_refl _) (Nat.zero_le _) rfl
theorem FMine.slice {w : World} {base : Nat} {v : Value} {l : List Nat} (h : FMine w base v l) (hu : F64 l) : ∃ B c, v = .slice B l.length c ∧ l.length ≤ c ∧ FRd w B l := by
  rcases h.2 with ⟨rfl, hn⟩ | ⟨g, cap, cur, rfl, _, hg, hnc, _, _, htake⟩
  · have : l = [] := List.eq_nil_of_length_eq_zero hn
    subst this
    exact ⟨none, 0, rfl, Nat.le_refl _, FRd.nil _ _⟩
  · refine ⟨_, cap, rfl, hnc, hu, fun i hi => ⟨g, 0, rfl, ?_⟩⟩
    rw [Nat.zero_add, cell_of_row w g i cur _ _ hg, ← fv_at l i hi, ← htake, List.getElem?_take, if_pos (by omega)]
    simp
theorem FMine.ext {w w' : World} {base : Nat} {v : Value} {l : List Nat} (h : FMine w base v l) (hx : Ext w w') : FMine w' base v l :=
  World.ownsRow.kept h (row := none) ⟨hx.below.os, hx.below.tape, hx.below.output, hx.below.size, fun k hk _ => hx.below.block k hk⟩ (by
    cases hb : v.ownBlock with
    | none => exact .inl rfl
    | some k => exact .inr (by simp))
theorem FMine.keep {w w' : World} {base : Nat} {v : Value} {l : List Nat} {row : Option Nat} (h : FMine w base v l) (hg : w.grownBy w' row) (hne : ∀ k, v.ownBlock = some k → some k ≠ row) : FMine w' base v l :=
  World.ownsRow.kept h hg (by
    cases hb : v.ownBlock with
    | none => exact .inl rfl
    | some k => exact .inr (hne k hb))
theorem FMine.block {w : World} {base : Nat} {v : Value} {l : List Nat} (h : FMine w base v l) : ∀ k, v.ownBlock = some k → base ≤ k ∧ k < w.heap.size := fun k hk => World.ownsRow.lt h k hk
theorem FMine.down {w : World} {base base' : Nat} {v : Value} {l : List Nat} (h : FMine w base v l) (hb : base' ≤ base) : FMine w base' v l :=
  ⟨h.1, h.2.imp id fun ⟨g, cap, cur, h1, h2, h3⟩ => ⟨g, cap, cur, h1, Nat.le_trans hb h2, h3⟩⟩
/-- A number is put into numbers of a call's own. -/
theorem FMine.put {w : World} {base g n c i x : Nat} {l : List Nat} (h : FMine w base (.slice (some ⟨g, 0, none⟩) n c) l) : FMine (w.setCell ⟨g, i, none⟩ (.float .f64 x)) base (.slice (some ⟨g, 0, none⟩) n c) (l.set i x) := by
  rcases h.2 with ⟨e, _⟩ | ⟨g', cap, cur, e, hb, hg, hnc, hcm, hcs, ht⟩
  · cases e
  · injection e with e1 e2 e3
    injection e1 with e1
    injection e1 with e1
    subst e1; subst e3
    refine ⟨by rw [fv_len, List.length_set, Nat.mul_one], .inr ⟨g, c, cur.setIfInBounds i (.float .f64 x), by rw [List.length_set, e2], hb, heap_setCell_same w g i cur _ _ hg, by rw [List.length_set]; exact hnc, hcm, by simpa using hcs, ?_⟩⟩
    rw [List.length_set, Array.toList_setIfInBounds, List.take_set, ht]
    unfold fv
    rw [List.map_set]
theorem FMine.spot {w : World} {base : Nat} {v : Value} {l : List Nat} (h : FMine w base v l) {i : Nat} (hi : i < l.length) : ∃ g n c, v = .slice (some ⟨g, 0, none⟩) n c ∧ base ≤ g ∧ w.cell? ⟨g, i, none⟩ = some (.float .f64 (co l i)) ∧ w.frozen? ⟨g, i, none⟩ = false := by
  rcases h.2 with ⟨rfl, hn⟩ | ⟨g, cap, cur, rfl, hb, hg, hnc, _, _, htake⟩
  · omega
  · refine ⟨g, _, cap, rfl, hb, ?_, frozen_of_row w g i cur _ hg⟩
    rw [cell_of_row w g i cur _ _ hg, ← fv_at l i hi, ← htake, List.getElem?_take, if_pos (by omega)]
    simp
set_option maxRecDepth 100000 in
theorem run_append_f64 (w : World) (base : Nat) (ty : TypeId) (v : Value) (l m : List Nat) (hown : FMine w base v l) (A : Option Addr) (c : Nat) (hr : FRd w A m)
    (hlen : l.length + m.length ≤ 1099511627776) (hbase : base ≤ w.heap.size) :
    ∃ v' w', (Builtin.append_ #[32, 32] ty #[v, .slice A m.length c]).run Try.prog w = .ok v' w' ∧ FMine w' base v' (l ++ m) ∧ w.grownBy w' v.ownBlock ∧ (v'.ownBlock = v.ownBlock ∨ v'.ownBlock = some w.heap.size) := by
  obtain ⟨i0, hi, hz0, hz1, hz2⟩ := info_parts f64_info
  cases A with
  | none =>
    have hm : m = [] := by
      rcases Nat.eq_zero_or_pos m.length with h | h
      · exact List.eq_nil_of_length_eq_zero h
      · obtain ⟨_, _, e, _⟩ := hr.2 0 h; cases e
    subst hm
    refine ⟨v, w, ?_, by simpa using hown, ⟨rfl, rfl, rfl, Nat.le_refl _, fun _ _ _ => rfl⟩, .inl rfl⟩
    rcases hown.2 with ⟨rfl, _⟩ | ⟨g, cap, cur, rfl, _, _, hnc, _⟩
    · simp [Builtin.append_, run_underlying Try.underlying32, sizeOf, typeInfo, hi, Builtin.lenOf, Builtin.firstCells]
    · simp [Builtin.append_, run_underlying Try.underlying32, sizeOf, typeInfo, hi, Builtin.lenOf, Builtin.firstCells, hnc, storeCells]
  | some a =>
    have hcells : ∀ j u, (fv m)[j]? = some u → w.cell? (a.add j) = some u := by
      intro j u hu
      have hj : j < m.length := by
        have := (List.getElem?_eq_some_iff.1 hu).1
        rwa [fv_len] at this
      obtain ⟨b, o, e, hc⟩ := hr.2 j hj
      injection e with e
      subst e
      rw [addr_add15, hc, ← fv_at m j hj, hu]
    obtain ⟨v', w', h1, h2, h3, _, h5⟩ := run_append_own_at (P := Try.prog) w base 32 ty 22 i0 (.float .f64 0) 1 8 Try.underlying32 hi hz0 hz1 hz2 rfl (by omega) v l.length (fv l) hown a m.length c (fv m) (by rw [fv_len, Nat.mul_one]) hcells (fv_one m)
      (by unfold maxLen; omega) (by omega) hbase
    exact ⟨v', w', h1, by unfold FMine; rw [List.length_append, fv_append]; exact h2, h3, h5⟩
/-- At the operation, for the walk. -/
theorem wpList_append_f64 {ops : Array Oper} {rest : List Oper} {o : Oper} {a : Act} {w : World} {Q : Exit → Act → World → Prop} (hgd : o.guard = none) (s x : Operand)
    (ho : o.op = .call { callee := .builtin .append, args := #[s, x], argTypes := #[32, 32] })
    (base : Nat) (v : Value) (l m : List Nat) (hs : a.eval s = v) (hown : FMine w base v l) (A : Option Addr) (n c : Nat) (hx : a.eval x = .slice A n c) (hn : m.length = n) (hr : FRd w A m)
    (hlen : l.length + m.length ≤ 1099511627776) (hbase : base ≤ w.heap.size)
    (h : ∀ v' w', FMine w' base v' (l ++ m) → w.grownBy w' v.ownBlock → (v'.ownBlock = v.ownBlock ∨ v'.ownBlock = some w.heap.size) → wpList Try.prog ops Q rest (a.put o.dst v') w') :
    wpList Try.prog ops Q (o :: rest) a w := by
  subst hn
  refine wpList_plain hgd fun K hK => ?_
  obtain ⟨v', w', hrun, h2, h3, h4⟩ := run_append_f64 w base o.type v l m hown A c hr hlen hbase
  unfold Oper.wp execOp
  simp only [ho, resolve, invoke, builtin, Sem.run_bind, Sem.run_pure, Result.andThen_ok, List.map_toArray, List.map_cons, List.map_nil, hs, hx, hrun]
  exact hK _ _ (h v' w' h2 h3 h4)
theorem FRd.drewN {w : World} {A : Option Addr} {l : List Nat} (h : FRd w A l) (n : Nat) : FRd (w.drewN n) A l := h
theorem f64_list {l : List Nat} (h : ∀ x ∈ l, x < 18446744073709551616) : F64 l := fun i => by
  unfold co
  cases hi : l[i]? with
  | none => decide
  | some x => exact h x (List.mem_of_getElem? hi)
theorem F64.mem {l : List Nat} (h : F64 l) : ∀ x ∈ l, x < 18446744073709551616 := fun x hx => by
  obtain ⟨i, hi, rfl⟩ := List.mem_iff_getElem.1 hx
  have := h i
  unfold co at this
  rwa [List.getElem?_eq_getElem hi] at this
theorem FRd.take {w : World} {A : Option Addr} {l : List Nat} (h : FRd w A l) (k : Nat) : FRd w A (l.take k) := by
  refine ⟨f64_list fun x hx => h.1.mem x (List.mem_of_mem_take hx), fun i hi => ?_⟩
  have hk : i < k ∧ i < l.length := by rw [List.length_take] at hi; omega
  obtain ⟨b, o, e, hc⟩ := h.2 i hk.2
  refine ⟨b, o, e, ?_⟩
  rw [hc]
  unfold co
  rw [List.getElem?_take, if_pos hk.1]
/-- s[:h] of floats. -/
theorem run_to_f64 (A : Option Addr) (len cap h : Nat) (hh : h ≤ cap) (W : World) :
    (Instr.slice 32 (.slice A len cap) none (some (.int .i64 (h : Int))) none).run Try.prog W = .ok (.slice A h cap) W := by
  obtain ⟨i0, hi, hz0, hz1, hz2⟩ := info_parts f64_info
  have he : Try.prog.elem 32 = 22 := by kernel_rfl
  rw [run_slice_h W 32 _ len cap (by rw [he]; exact Try.underlying32) .i64 (h : Int) (by omega) (by omega), he]
  cases A <;> simp [sizeOf, typeInfo, hi, hz1, Result.andThen, sliced, Addr.add]
/-- s[l:] of floats, whole. -/
theorem run_rest_f64 (A : Option Addr) (len cap l : Nat) (hl : l ≤ len) (hc : len ≤ cap) : ∃ X : Option Addr, (∀ W, (Instr.slice 32 (.slice A len cap) (some (.int .i64 (l : Int))) none none).run Try.prog W = .ok (.slice X (len - l) (cap - l)) W) ∧
    (∀ w L, FRd w A L → L.length = len → FRd w X (L.drop l)) := by
  obtain ⟨i0, hi, hz0, hz1, hz2⟩ := info_parts f64_info
  have he : Try.prog.elem 32 = 22 := by kernel_rfl
  refine ⟨if cap = l then A else A.map (·.add l), fun W => ?_, fun w L h hL => ⟨f64_list fun x hx => h.1.mem x (List.mem_of_mem_drop hx), fun i hi => ?_⟩⟩
  · rw [run_slice_l W 32 _ len cap (by rw [he]; exact Try.underlying32) .i64 (l : Int) (by omega) (by omega), he]
    cases A <;> simp [sizeOf, typeInfo, hi, hz1, Result.andThen, sliced]
  · rw [List.length_drop] at hi
    obtain ⟨b', o', e, hc⟩ := h.2 (l + i) (by omega)
    subst e
    refine ⟨b', o' + l, by rw [if_neg (by omega)]; simp [addr_add15], ?_⟩
    rw [Nat.add_assoc, hc]
    unfold co
    rw [List.getElem?_drop]
theorem frd_one (w : World) (x : Nat) (hx : x < 18446744073709551616) : FRd (w.alloc (.cells #[.float .f64 x] 22)) (some ⟨w.heap.size, 0, none⟩) [x] :=
  ⟨f64_list (by simpa using hx), fun i hi => ⟨w.heap.size, 0, rfl, by
    rw [cell_of_row _ _ _ _ _ _ (heap_alloc_new w _)]
    match i, hi with
    | 0, _ => simp [co]⟩⟩
/-- A call that hands back a list of floats of its own. -/
def GivesF (l : List Nat) (w : World) (e : Ending) (w' : World) : Prop := ∃ v, e = .returned v ∧ FMine w' w.heap.size v l ∧ F64 l ∧ Ext w w'
end Go.Proofs.Ytbgpgdbheajekaa

/-
  Rates in order, on plain lists: put in one by one; any list in order with the same rates is the same, place by place. Conditions: none; nothing of the program is named here.
-/
namespace Fl

/-- In order. -/
def Up (l : List Nat) : Prop := l.Pairwise fun a b => K a ≤ K b
/-- x is put behind the first k. -/
def insAt (l : List Nat) (k x : Nat) : List Nat := l.take k ++ x :: l.drop k
/-- The place where x is put: behind all that isn't behind it, from the end. -/
def spot (l : List Nat) (x : Nat) : Nat → Nat
  | 0 => 0
  | k + 1 => if K x < K (l[k]?.getD 0) then spot l x k else k + 1
def ins (l : List Nat) (x : Nat) : List Nat := insAt l (spot l x l.length) x
/-- Put in one by one. -/
def srt : List Nat → List Nat → List Nat
  | acc, [] => acc
  | acc, x :: r => srt (ins acc x) r
def sorted (l : List Nat) : List Nat := srt [] l

theorem spot_le (l : List Nat) (x : Nat) : ∀ k, spot l x k ≤ k
  | 0 => Nat.le_refl _
  | k + 1 => by
    unfold spot
    split
    · exact Nat.le_succ_of_le (spot_le l x k)
    · exact Nat.le_refl _
theorem spot_behind (l : List Nat) (x : Nat) : ∀ k i, spot l x k ≤ i → i < k → K x < K (l[i]?.getD 0)
  | 0, i, _, h => absurd h (by omega)
  | k + 1, i, h1, h2 => by
    unfold spot at h1
    split at h1
    · rename_i hk
      by_cases e : i = k
      · subst e; exact hk
      · exact spot_behind l x k i h1 (by omega)
    · omega
theorem spot_at (l : List Nat) (x : Nat) : ∀ k, 0 < spot l x k → K (l[spot l x k - 1]?.getD 0) ≤ K x
  | 0, h => absurd h (by unfold spot; omega)
  | k + 1, h => by
    unfold spot at h ⊢
    split
    · rename_i hk
      rw [if_pos hk] at h
      exact spot_at l x k h
    · rename_i hk
      rw [Nat.add_sub_cancel]
      omega
theorem spot_yes {l : List Nat} {x k : Nat} (h : K x < K (l[k]?.getD 0)) : spot l x (k + 1) = spot l x k := if_pos h
theorem spot_no {l : List Nat} {x k : Nat} (h : ¬ K x < K (l[k]?.getD 0)) : spot l x (k + 1) = k + 1 := if_neg h
theorem insAt_len (l : List Nat) (k x : Nat) : (insAt l k x).length = l.length + 1 := by
  unfold insAt
  rw [List.length_append, List.length_cons, List.length_take, List.length_drop]
  omega
theorem ins_len (l : List Nat) (x : Nat) : (ins l x).length = l.length + 1 := insAt_len ..
theorem srt_len (acc l : List Nat) : (srt acc l).length = acc.length + l.length := by
  induction l generalizing acc with
  | nil => rfl
  | cons x r ih => unfold srt; rw [ih, ins_len, List.length_cons]; omega
theorem sorted_len (l : List Nat) : (sorted l).length = l.length := by unfold sorted; rw [srt_len]; simp
theorem insAt_perm (l : List Nat) (k x : Nat) : (insAt l k x).Perm (x :: l) := by
  unfold insAt
  have h := List.perm_middle (a := x) (l₁ := l.take k) (l₂ := l.drop k)
  rwa [List.take_append_drop] at h
theorem srt_perm (acc l : List Nat) : (srt acc l).Perm (acc ++ l) := by
  induction l generalizing acc with
  | nil => unfold srt; rw [List.append_nil]
  | cons x r ih =>
    unfold srt
    refine (ih (ins acc x)).trans ?_
    refine ((insAt_perm acc _ x).append_right r).trans ?_
    exact List.perm_middle.symm
theorem sorted_perm (l : List Nat) : (sorted l).Perm l := srt_perm [] l
theorem up_ins {l : List Nat} (h : Up l) (x : Nat) : Up (ins l x) := by
  unfold ins insAt Up
  have h1 := spot_le l x l.length
  have hb := spot_behind l x l.length
  have ha := spot_at l x l.length
  generalize spot l x l.length = k at *
  have hp := List.pairwise_iff_getElem.1 h
  have hget : ∀ i (hi : i < l.length), l[i]?.getD 0 = l[i] := fun i hi => by rw [List.getElem?_eq_getElem hi]; rfl
  have hlow : ∀ a ∈ l.take k, K a ≤ K x := fun a ha' => by
    obtain ⟨i, hi, rfl⟩ := List.mem_iff_getElem.1 ha'
    rw [List.length_take] at hi
    rw [List.getElem_take]
    have hk : 0 < k := by omega
    have h2 := ha hk
    rw [hget _ (by omega)] at h2
    by_cases e : i = k - 1
    · subst e; exact h2
    · have := hp i (k - 1) (by omega) (by omega) (by omega)
      omega
  have hhigh : ∀ b ∈ l.drop k, K x ≤ K b := fun b hb' => by
    obtain ⟨i, hi, rfl⟩ := List.mem_iff_getElem.1 hb'
    rw [List.length_drop] at hi
    rw [List.getElem_drop]
    have h2 := hb (k + i) (by omega) (by omega)
    rw [hget _ (by omega)] at h2
    omega
  rw [List.pairwise_append]
  refine ⟨h.sublist (List.take_sublist _ _), ?_, ?_⟩
  · rw [List.pairwise_cons]
    exact ⟨hhigh, h.sublist (List.drop_sublist _ _)⟩
  · intro a ha' b hb'
    rcases List.mem_cons.1 hb' with rfl | hb'
    · exact hlow a ha'
    · have := hlow a ha'
      have := hhigh b hb'
      omega
theorem up_srt {acc : List Nat} (h : Up acc) (l : List Nat) : Up (srt acc l) := by
  induction l generalizing acc with
  | nil => exact h
  | cons x r ih => unfold srt; exact ih (up_ins h x)
theorem up_sorted (l : List Nat) : Up (sorted l) := up_srt List.Pairwise.nil l
/-- Any list in order with the same rates is the same, place by place. -/
theorem up_one {a b : List Nat} (ha : Up a) (hb : Up b) (hp : a.Perm b) : a.map K = b.map K := by
  have h1 : (a.map K).Pairwise (· ≤ ·) := List.pairwise_map.2 ha
  have h2 : (b.map K).Pairwise (· ≤ ·) := List.pairwise_map.2 hb
  exact (hp.map K).eq_of_pairwise (fun x y _ _ h1 h2 => Int.le_antisymm h1 h2) h1 h2
theorem keys_at {a b : List Nat} (h : a.map K = b.map K) (i : Nat) : K (a[i]?.getD 0) = K (b[i]?.getD 0) := by
  have e : ∀ l : List Nat, K (l[i]?.getD 0) = (l.map K)[i]?.getD (K 0) := fun l => by
    rw [List.getElem?_map]
    cases l[i]? <;> rfl
  rw [e, e, h]
theorem keys_len {a b : List Nat} (h : a.map K = b.map K) : a.length = b.length := by
  have := congrArg List.length h
  simpa using this
/-- The middle one: no more than half are ahead, and fewer than the rest behind. -/
def ahead (l : List Nat) (m : Nat) : Nat := l.countP fun x => decide (K x < K m)
def behind (l : List Nat) (m : Nat) : Nat := l.countP fun x => decide (K m < K x)
theorem mid_count {l s : List Nat} (hs : Up s) (hp : s.Perm l) {m : Nat} (h0 : 0 < l.length) (hm : K m = K (s[l.length / 2]?.getD 0)) : ahead l m ≤ l.length / 2 ∧ behind l m < l.length - l.length / 2 := by
  have hlen := hp.length_eq
  have h1 : ahead l m = ahead s m := (hp.countP_eq _).symm
  have h2 : behind l m = behind s m := (hp.countP_eq _).symm
  rw [h1, h2]
  have hk : l.length / 2 < s.length := by omega
  have hget : s[l.length / 2]?.getD 0 = s[l.length / 2] := by rw [List.getElem?_eq_getElem hk]; rfl
  rw [hget] at hm
  have hpw := List.pairwise_iff_getElem.1 hs
  generalize l.length / 2 = k at *
  have hsp : s = s.take k ++ s.drop k := (List.take_append_drop k s).symm
  constructor
  · unfold ahead
    rw [hsp, List.countP_append]
    have z : List.countP (fun x => decide (K x < K m)) (s.drop k) = 0 := by
      rw [List.countP_eq_zero]
      intro x hx
      obtain ⟨i, hi, rfl⟩ := List.mem_iff_getElem.1 hx
      rw [List.length_drop] at hi
      rw [List.getElem_drop]
      by_cases e : i = 0
      · subst e
        simp [hm]
      · have := hpw k (k + i) hk (by omega) (by omega)
        simp
        omega
    have := List.countP_le_length (p := fun x => decide (K x < K m)) (l := s.take k)
    rw [List.length_take] at this
    omega
  · unfold behind
    have hsp2 : s = s.take (k + 1) ++ s.drop (k + 1) := (List.take_append_drop (k + 1) s).symm
    rw [hsp2, List.countP_append]
    have z : List.countP (fun x => decide (K m < K x)) (s.take (k + 1)) = 0 := by
      rw [List.countP_eq_zero]
      intro x hx
      obtain ⟨i, hi, rfl⟩ := List.mem_iff_getElem.1 hx
      rw [List.length_take] at hi
      rw [List.getElem_take]
      by_cases e : i = k
      · subst e
        simp [hm]
      · have := hpw i k (by omega) hk (by omega)
        simp
        omega
    have := List.countP_le_length (p := fun x => decide (K m < K x)) (l := s.drop (k + 1))
    rw [List.length_drop] at this
    omega
end Fl

/-
  The document's Lists of layer 15: are rates alike, place by place? Conditions: none.
-/
namespace Go.Proofs.Ytbgpgdbheajekaa
open Go.RowKit
open Pol (co)
open Fl (K)

theorem keys_co {a b : List Nat} (h : a.map K = b.map K) (i : Nat) : K (co a i) = K (co b i) := Fl.keys_at h i
theorem keys_of {a b : List Nat} (hl : a.length = b.length) (h : ∀ i, i < a.length → K (co a i) = K (co b i)) : a.map K = b.map K := by
  apply List.ext_getElem
  · simp [hl]
  · intro i h1 h2
    rw [List.length_map] at h1 h2
    rw [List.getElem_map, List.getElem_map]
    have := h i h1
    unfold co at this
    rwa [List.getElem?_eq_getElem h1, List.getElem?_eq_getElem h2] at this
theorem ref15_lists (la lb : List Nat) (A B : Option Addr) (n m c d : Nat) (w : World) (hn : la.length = n) (hm : lb.length = m) (ha : FRd w A la) (hb : FRd w B lb) (hs : n ≤ 1048576) (hs2 : m ≤ 1048576) :
    Calls Try.prog 23 #[.slice A n c, .slice B m d] w (Hands (.bool (decide (la.map K = lb.map K))) w) := by
  by_cases hnm : n = m
  · subst hnm
    have HA := Lib.hid ha
    have HB := Lib.hid hb
    have HN := Lib.hid hn
    have HM := Lib.hid hm
    have HT := Lib.hid (show ∀ i, i < n → K (co la i) ≠ K (co lb i) → decide (la.map K = lb.map K) = false from fun i _ h => decide_eq_false fun e => h (keys_co e i))
    have HU := Lib.hid (show (∀ i, i < n → K (co la i) = K (co lb i)) → decide (la.map K = lb.map K) = true from fun h => decide_eq_true (keys_of (hn.trans hm.symm) (fun i hi => h i (by omega))))
    clear ha hb hn hm
    generalize decide (la.map K = lb.map K) = r at *
    go_enter Try.func23, Try.ntmps23
    go_wp2
    go_loopg [13] n (fun g s wx => ∃ i k : Nat, i + g = n ∧ s = .int .i64 (i : Int) ∧ wx = w.drewN k ∧ ∀ j, j < i → K (co la j) = K (co lb j))
    case atStart => exact ⟨0, 0, by omega, rfl, rfl, fun j h => absurd h (by omega)⟩
    case round =>
      obtain ⟨i, k, hig, rfl, hwx, hall⟩ := hrel
      have HWX := Lib.hid hwx
      clear hwx
      have HALL := Lib.hid hall
      clear hall
      cases gk with
      | zero =>
        obtain rfl : i = n := by omega
        clear hig
        have hr := HU.out HALL.out
        subst hr
        go_wp2
        go_ret
        exact ⟨rfl, k, HWX.out⟩
      | succ g =>
        have hi : i < n := by omega
        have hiI : (i : Int) < (n : Int) := by omega
        obtain ⟨b1, o1, rfl, hc1⟩ := HA.out.2 i (by rw [HN.out]; exact hi)
        obtain ⟨b2, o2, rfl, hc2⟩ := HB.out.2 i (by rw [HM.out]; exact hi)
        have hd1 : wr.cell? ⟨b1, o1 + i, none⟩ = some (.float .f64 (co la i)) := by rw [HWX.out]; exact hc1
        have hd2 : wr.cell? ⟨b2, o2 + i, none⟩ = some (.float .f64 (co lb i)) := by rw [HWX.out]; exact hc2
        clear hc1 hc2
        have HIG := Lib.hid hig
        have HC := Lib.hid (HT.out i hi)
        have HS := Lib.hid (ref15_same (co la i) (co lb i))
        have HE := Lib.hid (show K (co la i) = K (co lb i) → ∀ j, j < i + 1 → K (co la j) = K (co lb j) from fun h j hj => by
          by_cases e : j = i
          · subst e; exact h
          · exact HALL.out j (by omega))
        clear hig
        generalize co la i = x at *
        generalize co lb i = y at *
        by_cases he : K x = K y
        · rw [decide_eq_true he] at HS
          have HE' := Lib.hid (HE.out he)
          clear HE HC he
          go_wp2
          go_quiet (first | (go_at_call 15; exact quiet_hands (HS.out _)))
          go_wp2
          go_roundg g
          case measure => omega
          case rel => exact ⟨i + 1, _, by have := HIG.out; omega, by go_num, by rw [HWX.out, World.drewN_drewN], HE'.out⟩
        · rw [decide_eq_false he] at HS
          have hr := HC.out he
          subst hr
          clear HE HC he
          go_wp2
          go_quiet (first | (go_at_call 15; exact quiet_hands (HS.out _)))
          go_wp2
          go_ret
          exact ⟨rfl, k + nq, by rw [HWX.out, World.drewN_drewN]⟩
  · rw [decide_eq_false (fun e => hnm (by have := Fl.keys_len e; omega))]
    have d1 : ((n : Int) != (m : Int)) = true := by simp; omega
    have d2 : decide ((n : Int) = (m : Int)) = false := decide_eq_false (by omega)
    have d3 : decide (n = m) = false := decide_eq_false hnm
    clear ha hb hn hm
    go_enter Try.func23, Try.ntmps23
    go_wp2
    go_ret
    exact ⟨rfl, 0, rfl⟩
end Go.Proofs.Ytbgpgdbheajekaa

/-
  The document's Sort of layer 15. Conditions: no more than 2^16 rates.
-/
namespace Go.Proofs.Ytbgpgdbheajekaa
open Go.RowKit
open Pol (co)
open Fl (K)

theorem f64_ins {o : List Nat} {x : Nat} (h : F64 o) (hx : x < 18446744073709551616) : F64 (Fl.ins o x) := f64_list fun y hy => by
  have hp := (Fl.insAt_perm o (Fl.spot o x o.length) x).mem_iff.1 hy
  rcases List.mem_cons.1 hp with rfl | hp
  · exact hx
  · exact h.mem y hp
theorem srt_next {l o : List Nat} {i : Nat} (hi : i < l.length) : Fl.srt o (l.drop i) = Fl.srt (Fl.ins o (co l i)) (l.drop (i + 1)) := by
  rw [List.drop_eq_getElem_cons hi]
  unfold co
  rw [List.getElem?_eq_getElem hi]
  rfl
set_option maxHeartbeats 3200000 in
theorem ref15_sort (l : List Nat) (A : Option Addr) (n c : Nat) (w : World) (hn : l.length = n) (hr : FRd w A l) (hl : n ≤ 65536) :
    Calls Try.prog 21 #[.slice A n c] w (GivesF (Fl.sorted l) w) := by
  have HN := Lib.hid hn
  have HR := Lib.hid hr
  clear hn hr
  go_enter Try.func21, Try.ntmps21
  go_wp2
  go_loopg [3, 9] n (fun g s3 s9 wx => ∃ i : Nat, i + g = n ∧ s9 = .int .i64 (i : Int) ∧ Ext w wx ∧ ∃ o, o.length = i ∧ F64 o ∧ FMine wx w.heap.size s3 o ∧ Fl.srt o (l.drop i) = Fl.sorted l)
  case atStart => exact ⟨0, by omega, rfl, Ext.refl _, [], rfl, fun i => by unfold co; simp, FMine.nil _ _, rfl⟩
  case round =>
    obtain ⟨i, hig, rfl, hx, o, ho, hof, hm, hst⟩ := hrel
    have HX := Lib.hid hx
    have HO := Lib.hid ho
    have HOF := Lib.hid hof
    have HM := Lib.hid hm
    have HST := Lib.hid hst
    clear hx hm hst
    obtain ⟨B, oc, rfl, hoc, hor⟩ := HM.out.slice hof
    rw [ho] at hoc ⊢
    have HOR := Lib.hid hor
    clear hor hof
    cases gk with
    | zero =>
      obtain rfl : i = n := by omega
      clear hig
      go_wp2
      go_ret
      refine ⟨_, rfl, ?_, ?_, HX.out⟩
      · have h := HST.out
        rw [← HN.out, List.drop_length] at h
        rw [← h]
        have h2 := HM.out
        rw [HO.out] at h2
        exact h2
      · have h := HST.out
        rw [← HN.out, List.drop_length] at h
        rw [← h]
        exact HOF.out
    | succ g =>
      have hi : i < n := by omega
      have hiI : (i : Int) < (n : Int) := by omega
      obtain ⟨b1, o1, rfl, hc1⟩ := HR.out.2 i (by rw [HN.out]; exact hi)
      have hx64 := HR.out.1 i
      have HNX := Lib.hid (HST.out.symm.trans (srt_next (by rw [HN.out]; exact hi))).symm
      have HIG := Lib.hid hig
      clear HST hig HM ho
      generalize co l i = x at *
      have HINS := Lib.hid (f64_ins HOF.out hx64)
      have HC0 := Lib.hid ((HX.out.below.cell (p := ⟨b1, o1 + i, none⟩) (block_lt_of_cell hc1)).trans hc1)
      clear hc1
      obtain ⟨wo, hwo⟩ : ∃ wq, wq = wr := ⟨_, rfl⟩
      subst hwo
      go_wp2
      go_loopg [5] i (fun k s wx => s = .int .i64 (k : Int) ∧ k ≤ i ∧ (∃ m, wx = wo.drewN m) ∧ Fl.spot o x k = Fl.spot o x o.length)
      case atStart => exact ⟨rfl, Nat.le_refl _, ⟨0, rfl⟩, by rw [HO.out]⟩
      case round =>
        obtain ⟨rfl, hki, ⟨m, hwm⟩, hsp⟩ := hrel
        have HXW := Lib.hid (show Ext wo wr by rw [hwm]; exact (Ext.refl _).drewN m)
        have HWM := Lib.hid hwm
        have HW := Lib.hid (HOR.out.ext HXW.out)
        have hc1 := (HXW.out.below.cell (p := ⟨b1, o1 + i, none⟩) (block_lt_of_cell HC0.out)).trans HC0.out
        clear hwm
        cases gk with
        | zero =>
          have HC1 := Lib.hid hc1
          have HSP := Lib.hid (show [] ++ [x] ++ o = Fl.ins o x by unfold Fl.ins Fl.insAt; rw [← hsp]; unfold Fl.spot; simp)
          clear hsp hc1
          go_wp2
          go_quiet (fail)
          have HXWz := Lib.hid (HXW.out.drewN nq)
          have HWz := Lib.hid (HW.out.drewN nq)
          have HC1z := Lib.hid (show (wr.drewN nq).cell? ⟨b1, o1 + i, none⟩ = some (.float .f64 x) from HC1.out)
          clear HXW HW HC1 HWM
          generalize wr.drewN nq = wz at *
          have hc2 := HC1z.out
          have HY := Lib.hid (frd_one wz x hx64)
          cases B with
          | none =>
            go_wp2_with (first | (at_builtin; refine wpList_append_f64 rfl (.tmp 35) (.tmp 40) rfl wz.heap.size _ [] [x] rfl (FMine.nil _ _) (some ⟨wz.heap.size, 0, none⟩) 1 1 rfl rfl HY.out (by simp) ((Ext.refl wz).alloc _).size ?_; intro v3 w3 hv3 hg3 _; have HV3 := Lib.hid hv3; have HX3 := Lib.hid (((Ext.refl wz).alloc _).more hg3 (fun q e => by cases e)); clear hv3 hg3 hc2 HY) | (at_builtin; refine wpList_append_f64 rfl (.tmp 42) (.tmp 45) rfl wz.heap.size _ ([] ++ [x]) o rfl HV3.out _ i _ rfl HO.out (HWz.out.ext HX3.out) (by rw [HO.out]; simp; omega) HX3.out.size ?_; intro v4 w4 hv4 hg4 _; have HV4 := Lib.hid hv4; have HX4 := Lib.hid (HX3.out.more hg4 (fun q e => (HV3.out.block q e).1)); clear hv4 hg4) | fail)
            go_roundg g
            case measure => omega
            case rel => exact ⟨i + 1, by have := HIG.out; omega, by go_num, (HX.out.trans HXWz.out).trans HX4.out, Fl.ins o x, by rw [Fl.ins_len, HO.out], HINS.out, by rw [← HSP.out]; exact HV4.out.down (HX.out.trans HXWz.out).size, HNX.out⟩
          | some a =>
            go_wp2_with (first | (at_builtin; refine wpList_append_f64 rfl (.tmp 35) (.tmp 40) rfl wz.heap.size _ [] [x] rfl (FMine.nil _ _) (some ⟨wz.heap.size, 0, none⟩) 1 1 rfl rfl HY.out (by simp) ((Ext.refl wz).alloc _).size ?_; intro v3 w3 hv3 hg3 _; have HV3 := Lib.hid hv3; have HX3 := Lib.hid (((Ext.refl wz).alloc _).more hg3 (fun q e => by cases e)); clear hv3 hg3 hc2 HY) | (at_builtin; refine wpList_append_f64 rfl (.tmp 42) (.tmp 45) rfl wz.heap.size _ ([] ++ [x]) o rfl HV3.out _ i _ rfl HO.out (HWz.out.ext HX3.out) (by rw [HO.out]; simp; omega) HX3.out.size ?_; intro v4 w4 hv4 hg4 _; have HV4 := Lib.hid hv4; have HX4 := Lib.hid (HX3.out.more hg4 (fun q e => (HV3.out.block q e).1)); clear hv4 hg4) | fail)
            go_roundg g
            case measure => omega
            case rel => exact ⟨i + 1, by have := HIG.out; omega, by go_num, (HX.out.trans HXWz.out).trans HX4.out, Fl.ins o x, by rw [Fl.ins_len, HO.out], HINS.out, by rw [← HSP.out]; exact HV4.out.down (HX.out.trans HXWz.out).size, HNX.out⟩
        | succ k =>
          have e1 : ((k + 1 : Nat) : Int) - 1 = (k : Int) := by omega
          have e2 : (k : Int) + 1 - 1 = (k : Int) := by omega
          have d1 : decide ((0 : Int) < ((k + 1 : Nat) : Int)) = true := decide_eq_true (by omega)
          have hkI : (k : Int) < (i : Int) := by omega
          obtain ⟨b2, o2, hB, hc2⟩ := HW.out.2 k (by rw [HO.out]; omega)
          have HSM := Lib.hid (ref15_less x (co o k))
          by_cases hlt : K x < K (co o k)
          · rw [decide_eq_true hlt] at HSM
            have HSP := Lib.hid (show Fl.spot o x k = Fl.spot o x o.length by rw [← hsp]; exact (Fl.spot_yes hlt).symm)
            clear hsp hlt
            generalize co o k = y at *
            subst hB
            go_wp2
            go_quiet (first | (go_at_call 13; exact quiet_hands (HSM.out _)))
            go_wp2
            go_roundg k
            case measure => omega
            case rel => exact ⟨by go_num, by omega, ⟨m + nq, by rw [HWM.out, World.drewN_drewN]⟩, HSP.out⟩
          · rw [decide_eq_false hlt] at HSM
            have HSP := Lib.hid (show o.take (k + 1) ++ [x] ++ o.drop (k + 1) = Fl.ins o x by
              have e : Fl.spot o x o.length = k + 1 := by rw [← hsp]; exact Fl.spot_no hlt
              unfold Fl.ins Fl.insAt
              rw [e]
              simp)
            clear hsp hlt
            generalize co o k = y at *
            subst hB
            have HC1 := Lib.hid hc1
            have HTK := Lib.hid (show (o.take (k + 1)).length = (k + 1) by rw [List.length_take, HO.out]; omega)
            have hz : (k : Int) + 1 = (((k + 1) : Nat) : Int) := by omega
            have hcut : ∀ W, (Instr.slice 32 (.slice (some ⟨b2, o2, none⟩) i oc) none (some (.int .i64 ((k : Int) + 1))) none).run Try.prog W = .ok (.slice (some ⟨b2, o2, none⟩) ((k + 1)) oc) W := fun W => by rw [hz]; exact run_to_f64 (some ⟨b2, o2, none⟩) i oc (k + 1) (by omega) W
            obtain ⟨X, hxc1, hxc2⟩ := run_rest_f64 (some ⟨b2, o2, none⟩) i oc (k + 1) (by omega) hoc
            rw [← hz] at hxc1
            have HXC2 := Lib.hid hxc2
            clear hxc2 hz
            go_wp2
            go_quiet (first | (go_at_call 13; exact quiet_hands (HSM.out _)))
            have HXWz := Lib.hid (HXW.out.drewN nq)
            have HWz := Lib.hid (HW.out.drewN nq)
            have HC1z := Lib.hid (show (wr.drewN nq).cell? ⟨b1, o1 + i, none⟩ = some (.float .f64 x) from HC1.out)
            clear HXW HW HC1 hc1 hc2 HWM
            generalize wr.drewN nq = wz at *
            go_wp2_with (first | (at_builtin; refine wpList_append_f64 rfl (.tmp 30) (.tmp 33) rfl wz.heap.size _ [] (o.take (k + 1)) rfl (FMine.nil _ _) (some ⟨b2, o2, none⟩) (k + 1) oc rfl HTK.out (HWz.out.take (k + 1)) (by rw [HTK.out]; simp; omega) (Nat.le_refl _) ?_; intro v2 w2 hv2 hg2 _; have HV2 := Lib.hid hv2; have HX2 := Lib.hid ((Ext.refl wz).more hg2 (fun q e => by cases e)); clear hv2 hg2; have hc2 : w2.cell? ⟨b1, o1 + i, none⟩ = some (.float .f64 x) := (HX2.out.below.cell (p := ⟨b1, o1 + i, none⟩) (block_lt_of_cell HC1z.out)).trans HC1z.out; have HY := Lib.hid (frd_one w2 x hx64)) | (at_builtin; refine wpList_append_f64 rfl (.tmp 35) (.tmp 40) rfl wz.heap.size _ (o.take (k + 1)) [x] rfl (HV2.out.ext ((Ext.refl _).alloc _)) (some ⟨w2.heap.size, 0, none⟩) 1 1 rfl rfl HY.out (by rw [HTK.out]; simp; omega) (HX2.out.alloc _).size ?_; intro v3 w3 hv3 hg3 _; have HV3 := Lib.hid hv3; have HX3 := Lib.hid ((HX2.out.alloc _).more hg3 (fun q e => (HV2.out.block q e).1)); clear hv3 hg3 hc2 HY; have HWW := Lib.hid (HXC2.out w3 o (HWz.out.ext HX3.out) HO.out)) | (at_builtin; refine wpList_append_f64 rfl (.tmp 42) (.tmp 45) rfl wz.heap.size _ (o.take (k + 1) ++ [x]) (o.drop (k + 1)) rfl HV3.out X (i - (k + 1)) (oc - (k + 1)) rfl (by rw [List.length_drop, HO.out]) HWW.out (by rw [List.length_append, HTK.out, List.length_drop, HO.out]; simp; omega) HX3.out.size ?_; intro v4 w4 hv4 hg4 _; have HV4 := Lib.hid hv4; have HX4 := Lib.hid (HX3.out.more hg4 (fun q e => (HV3.out.block q e).1)); clear hv4 hg4) | fail)
            go_roundg g
            case measure => omega
            case rel => exact ⟨i + 1, by have := HIG.out; omega, by go_num, (HX.out.trans HXWz.out).trans HX4.out, Fl.ins o x, by rw [Fl.ins_len, HO.out], HINS.out, by rw [← HSP.out]; exact HV4.out.down (HX.out.trans HXWz.out).size, HNX.out⟩
end Go.Proofs.Ytbgpgdbheajekaa

/-
  What the laws of layer 15 stand on: what the functions of package score do, over any code; and that the law's own awake holds. Conditions: those of ScoreSaid.
-/
namespace Go.Proofs.Ytbgpgdbheajekaa
open Go.RowKit
open Pol (co)
open Fl (K v rung sgn IsNan RndOk rnd sg rq S U IsRate)

/-- A call that hands back a rate of which something is known. -/
def GivesR (P : Nat → Prop) (w : World) (e : Ending) (w' : World) : Prop := ∃ r, e = .returned (.float .f64 r) ∧ r < 18446744073709551616 ∧ P r ∧ Ext w w'
/-- A call that hands back rates in order. -/
def SortR (l : List Nat) (w : World) (e : Ending) (w' : World) : Prop := ∃ B c s, e = .returned (.slice B l.length c) ∧ l.length ≤ c ∧ FRd w' B s ∧ s.length = l.length ∧ s.map K = (Fl.sorted l).map K ∧ Ext w w'
structure ScoreSaid : Prop where
  less : ∀ (a b : Nat) (w : World), a < 18446744073709551616 → b < 18446744073709551616 → Calls Try.prog 12 #[.float .f64 a, .float .f64 b] w (Tells (.bool (decide (K a < K b))) w)
  same : ∀ (a b : Nat) (w : World), a < 18446744073709551616 → b < 18446744073709551616 → Calls Try.prog 14 #[.float .f64 a, .float .f64 b] w (Tells (.bool (decide (K a = K b))) w)
  rate : ∀ (fee : Nat) (n : Int) (w : World), fee < 18446744073709551616 → -9223372036854775808 ≤ n → n < 9223372036854775808 → Calls Try.prog 16 #[.int .u64 (fee : Int), .int .i64 n] w (GivesR (IsRate fee n) w)
  clamp : ∀ (x lo hi : Nat) (w : World), x < 18446744073709551616 → lo < 18446744073709551616 → hi < 18446744073709551616 → Calls Try.prog 18 #[.float .f64 x, .float .f64 lo, .float .f64 hi] w (GivesR (fun r => K r = K (clamp x lo hi)) w)
  round : ∀ (x : Nat) (w : World), x < 18446744073709551616 → Calls Try.prog 10 #[.float .f64 x] w (Tells (RoundV x) w)
  sort : ∀ (l : List Nat) (A : Option Addr) (n c : Nat) (w : World), l.length = n → FRd w A l → n ≤ c → n ≤ 65536 → Calls Try.prog 20 #[.slice A n c] w (SortR l w)
  mid : ∀ (l : List Nat) (A : Option Addr) (n c : Nat) (w : World), l.length = n → FRd w A l → n ≤ c → n ≤ 65536 → Calls Try.prog 22 #[.slice A n c] w (GivesR (fun r => (n = 0 → IsNan r) ∧ (0 < n → K r = K (co (Fl.sorted l) (n / 2)))) w)

theorem K_small {x : Nat} (h : x ≤ 9218868437227405312) : K x = (x : Int) := by
  have hr : rung x = x := by unfold Fl.rung; omega
  have hs : sgn x = false := by unfold Fl.sgn; rw [show x / 9223372036854775808 = 0 by omega]; rfl
  unfold Fl.K
  rw [if_neg (by unfold Fl.IsNan; omega), hr, hs]
  rfl
/-- The place among all tells what a word is worth. -/
theorem K_v {x y : Nat} (h : K x = K y) (hy : ¬ IsNan y) : ¬ IsNan x ∧ v x = v y := by
  have hx : ¬ IsNan x := fun hx => hy (Fl.K_nan.2 (h ▸ Fl.K_nan.1 hx))
  refine ⟨hx, ?_⟩
  unfold Fl.K at h
  rw [if_neg hx, if_neg hy] at h
  unfold Fl.v
  cases hsx : sgn x <;> cases hsy : sgn y <;> rw [hsx, hsy] at h <;> simp at h ⊢ <;> first | (rw [show rung x = rung y by omega]; done) | omega
theorem nan_K {x y : Nat} (h : K x = K y) : IsNan x ↔ IsNan y := by rw [Fl.K_nan, Fl.K_nan, h]
theorem rate32 : Fl.rate 3 2 = some 4609434218613702656 := by decide +kernel
theorem is15 {r : Nat} (h : IsRate 3 2 r) : (FloatKind.f64.format.order r 4609434218613702656 == some Ordering.eq) = true := by
  unfold Fl.IsRate at h
  rw [rate32] at h
  have hn : ¬ IsNan 4609434218613702656 := Fl.nan_fin (by unfold Fl.rung; omega)
  obtain ⟨h1, h2⟩ := K_v h hn
  rw [Fl.eq_is]
  exact decide_eq_true ⟨h1, hn, h2⟩
theorem rq_of {p : Nat} (hp : U = 4503599627370496 * p) (h : 0 < p) : rq (11258999068426240 * p) = 2 := by
  have e : 11258999068426240 * p = 2 * U + 2251799813685248 * p := by rw [hp]; omega
  have e1 : (11258999068426240 * p) / U = 2 := by
    rw [e]
    exact Nat.div_eq_of_lt_le (by omega) (by rw [hp]; omega)
  have e2 : (11258999068426240 * p) % U = 2251799813685248 * p := by
    have := Nat.div_add_mod (11258999068426240 * p) U
    rw [e1] at this
    omega
  unfold Fl.rq
  rw [e1, e2, if_pos (.inr ⟨by rw [hp]; omega, rfl⟩)]
theorem S_25 (n : Nat) : ∃ p, 0 < p ∧ Fl.S ((n + 1) * 4503599627370496 + 5629499534213120) = 11258999068426240 * p ∧ Fl.S (n * 4503599627370496 + 4503599627370496) = 4503599627370496 * p := by
  refine ⟨2 ^ n, Nat.two_pow_pos _, ?_, ?_⟩
  · rw [Fl.S_at (.inl (by omega)) (by omega), Nat.pow_succ]
    generalize 2 ^ n = p
    omega
  · exact Fl.S_at (.inl (by omega)) (by omega)
theorem two_half : RoundV 4612811918334230528 = .tuple #[.int .i64 2, .bool true] := by
  have hr : rung 4612811918334230528 = 4612811918334230528 := by unfold Fl.rung; omega
  have hs : sgn 4612811918334230528 = false := by unfold Fl.sgn; rw [show 4612811918334230528 / 9223372036854775808 = 0 by omega]; rfl
  have hk : RndOk 4612811918334230528 := by unfold Fl.RndOk; omega
  unfold RoundV
  rw [decide_eq_true hk, Fl.rnd_ok hk, hr]
  obtain ⟨p, hp, h⟩ := S_25 1022
  rw [show (1022 + 1) * 4503599627370496 + 5629499534213120 = 4612811918334230528 by omega, show 1022 * 4503599627370496 + 4503599627370496 = 4607182418800017408 by omega, Fl.S_1] at h
  rw [h.1, rq_of h.2 hp]
  unfold Fl.sg
  rw [hs]
  rfl
theorem awake15 (C : ScoreSaid) (w : World) : Calls Try.prog 9 #[] w (Holds w) := by
  have HR := Lib.hid (fun u => C.round 4612811918334230528 u (by omega))
  rw [two_half] at HR
  have k1 := K_small (x := 4607182418800017408) (by omega)
  have k2 := K_small (x := 4611686018427387904) (by omega)
  have H1 := Lib.hid (fun u => C.less 4607182418800017408 4611686018427387904 u (by omega) (by omega))
  rw [k1, k2, decide_eq_true (by omega)] at H1
  have H2 := Lib.hid (fun u => C.less 4611686018427387904 4607182418800017408 u (by omega) (by omega))
  rw [k1, k2, decide_eq_false (by omega)] at H2
  have H3 := Lib.hid (fun u => C.rate 3 2 u (by omega) (by omega) (by omega))
  have H4 := Lib.hid (fun u => C.same 4607182418800017408 4611686018427387904 u (by omega) (by omega))
  rw [k1, k2, decide_eq_false (by omega)] at H4
  clear k1 k2
  go_enter Try.func9, Try.ntmps9
  go_wp2_with fail
  refine (HR.out w).mono ?_
  rintro e w1 ⟨rfl, hx1⟩
  have HX1 := Lib.hid hx1
  clear hx1
  go_wp2_with fail
  refine (H1.out w1).mono ?_
  rintro e w2 ⟨rfl, hx2⟩
  have HX2 := Lib.hid (HX1.out.trans hx2)
  clear hx2
  go_wp2_with fail
  refine (H2.out w2).mono ?_
  rintro e w3 ⟨rfl, hx3⟩
  have HX3 := Lib.hid (HX2.out.trans hx3)
  clear hx3
  go_wp2_with fail
  refine (H3.out w3).mono ?_
  rintro e w4 ⟨r, rfl, _, hq, hx4⟩
  have hq2 := is15 hq
  have HX4 := Lib.hid (HX3.out.trans hx4)
  clear hx4 hq
  go_wp2_with fail
  refine (H4.out w4).mono ?_
  rintro e w5 ⟨rfl, hx5⟩
  have HX5 := Lib.hid (HX4.out.trans hx5)
  clear hx5
  go_wp2
  go_ret
  exact ⟨rfl, HX5.out⟩
end Go.Proofs.Ytbgpgdbheajekaa

/-
  What ScoreRates stands on. Conditions: none.
-/
namespace Go.Proofs.Ytbgpgdbheajekaa
open Go.RowKit
open Pol (co)
open Fl (K v rung sgn IsNan RndOk rnd sg rq S U IsRate)

theorem mul_inf {x : Nat} (h : K x = 9218868437227405312) : floatBits .mul .f64 x 4611686018427387904 = some 9218868437227405312 ∧ ¬ IsNan x ∧ v x = ((S 9218868437227405312 : Nat) : Int) := by
  have hn : ¬ IsNan x := fun hn => by have := Fl.K_nan.1 hn; omega
  have hx : rung x = 9218868437227405312 ∧ sgn x = false := by
    unfold Fl.K at h
    rw [if_neg hn] at h
    cases hs : sgn x
    · rw [hs] at h; simp at h; exact ⟨by omega, rfl⟩
    · rw [hs] at h; simp at h; omega
  have h2 : rung 4611686018427387904 = 4611686018427387904 := by unfold Fl.rung; omega
  have s2 : sgn 4611686018427387904 = false := by unfold Fl.sgn; rw [show 4611686018427387904 / 9223372036854775808 = 0 by omega]; rfl
  refine ⟨?_, hn, ?_⟩
  · show Option.map Ieee.double.write ((Ieee.double.read x).product (Ieee.double.read 4611686018427387904)) = _
    rw [Fl.read_is, hx.1, hx.2, if_neg (by omega), if_pos rfl, Fl.read_fin (by rw [h2]; omega), h2, s2]
    have hm : Fl.mg 4611686018427387904 ≠ 0 := by have := Fl.mg_pos (r := 4611686018427387904); omega
    unfold Ieee.Datum.product
    dsimp only
    rw [if_neg hm]
    decide +kernel
  · unfold Fl.v
    rw [hx.1, hx.2]
    rfl
theorem K_e300 : K 18318360957983683996 = -9094988921128908189 := by
  have hr : rung 18318360957983683996 = 9094988921128908188 := by unfold Fl.rung; omega
  have hs : sgn 18318360957983683996 = true := by unfold Fl.sgn; rw [show 18318360957983683996 / 9223372036854775808 = 1 by omega]; rfl
  unfold Fl.K
  rw [if_neg (by unfold Fl.IsNan; omega), hr, hs]
  rfl
theorem v_e300 : ¬ IsNan 9094988921128908188 ∧ v 9094988921128908188 < ((S 9218868437227405312 : Nat) : Int) := by
  have hr : rung 9094988921128908188 = 9094988921128908188 := by unfold Fl.rung; omega
  have hs : sgn 9094988921128908188 = false := by unfold Fl.sgn; rw [show 9094988921128908188 / 9223372036854775808 = 0 by omega]; rfl
  refine ⟨by unfold Fl.IsNan; omega, ?_⟩
  unfold Fl.v
  rw [hr, hs]
  have := Fl.S_mono (show 9094988921128908188 < 9218868437227405312 by omega)
  generalize S 9094988921128908188 = p at *
  generalize S 9218868437227405312 = q at *
  show (p : Int) < q
  omega
theorem v_inf : v 9218868437227405312 = ((S 9218868437227405312 : Nat) : Int) := by
  have hr : rung 9218868437227405312 = 9218868437227405312 := by unfold Fl.rung; omega
  have hs : sgn 9218868437227405312 = false := by unfold Fl.sgn; rw [show 9218868437227405312 / 9223372036854775808 = 0 by omega]; rfl
  unfold Fl.v
  rw [hr, hs]
  rfl
end Go.Proofs.Ytbgpgdbheajekaa

/-
  ScoreRates, walked: some orders of the fees and of the bytes. Conditions: those of ScoreSaid.
-/
namespace Go.Proofs.Ytbgpgdbheajekaa
open Go.RowKit
open Pol (co)
open Fl (K v rung sgn IsNan RndOk rnd sg rq S U IsRate)

set_option maxHeartbeats 1600000 in
theorem rates15_llp (C : ScoreSaid) (a b n m : Nat) (w : World) (ha : a < 18446744073709551616) (hb : b < 18446744073709551616) (hn : n < 65536) (hm : m < 65536) (h1 : a < b) (h2 : n < m) (h3 : 0 < a) :
    Calls Try.prog 8 #[.int .u64 (a : Int), .int .u64 (b : Int), .int .u16 (n : Int), .int .u16 (m : Int)] w (Holds w) := by
  have HX := Lib.hid (fun u => C.rate a ((n + 1 : Nat) : Int) u (by omega) (by omega) (by omega))
  have HY := Lib.hid (fun u => C.rate b ((n + 1 : Nat) : Int) u (by omega) (by omega) (by omega))
  have HFE := Lib.hid (fun u => C.rate a ((n + 1 : Nat) : Int) u (by omega) (by omega) (by omega))
  have HMA := Lib.hid (fun u => C.rate a ((m + 1 : Nat) : Int) u (by omega) (by omega) (by omega))
  have HNO := Lib.hid (fun u => C.rate a 0 u (by omega) (by omega) (by omega))
  have HNE := Lib.hid (fun u => C.rate a (-1 - (n : Int)) u (by omega) (by omega) (by omega))
  go_enter Try.func8, Try.ntmps8
  go_wp2_with fail
  refine (awake15 C w).mono ?_
  rintro e w1 ⟨rfl, hx⟩
  have HX1 := Lib.hid hx
  clear hx
  go_wp2_with fail
  refine (HX.out w1).mono ?_
  rintro e w2 ⟨x, rfl, hx0, hx1, hx⟩
  have HX2 := Lib.hid (HX1.out.trans hx)
  clear hx
  go_wp2_with fail
  refine (HY.out w2).mono ?_
  rintro e w3 ⟨y, rfl, hy0, hy1, hx⟩
  have HX3 := Lib.hid (HX2.out.trans hx)
  clear hx
  have hxy := Fl.rate_fee (show a ≤ b by omega) (by omega) (show 0 < n + 1 by omega) (by omega) hx1 hy1
  have HL1 := Lib.hid (fun u => C.less y x u hy0 hx0)
  rw [decide_eq_false (by omega)] at HL1
  clear hx1 hy1 hxy hx0 hy0
  go_wp2_with fail
  refine (HFE.out w3).mono ?_
  rintro e w4 ⟨few, rfl, hf0, hf1, hx⟩
  have HX4 := Lib.hid (HX3.out.trans hx)
  clear hx
  go_wp2_with fail
  refine (HMA.out w4).mono ?_
  rintro e w5 ⟨many, rfl, hm0, hm1, hx⟩
  have HX5 := Lib.hid (HX4.out.trans hx)
  clear hx
  have hfm := Fl.rate_bytes (a := a) (by omega) (show n + 1 ≤ m + 1 by omega) (by omega) (by omega) hf1 hm1
  have HL2 := Lib.hid (fun u => C.less few many u hf0 hm0)
  rw [decide_eq_false (by omega)] at HL2
  clear hf1 hm1 hfm hf0 hm0
  go_wp2_with fail
  refine (HNO.out w5).mono ?_
  rintro e w6 ⟨none, rfl, ho0, ho1, hx⟩
  have HX6 := Lib.hid (HX5.out.trans hx)
  clear hx
  have hk := Fl.rate_none ha ho1
  rw [if_neg (by omega)] at hk
  obtain ⟨p1, p2, p3⟩ := mul_inf hk
  have f1 := Fl.gt_is none 9094988921128908188
  rw [decide_eq_true ⟨p2, v_e300.1, by rw [p3]; exact v_e300.2⟩] at f1
  have hs := fun W t => run_float_arith (P := Try.prog) W .mul t .f64 _ _ _ p1
  have f2 := Fl.eq_is none 9218868437227405312
  rw [decide_eq_true ⟨p2, by unfold Fl.IsNan Fl.rung; omega, by rw [p3]; exact v_inf.symm⟩] at f2
  clear ho1 hk p1 p2 p3
  go_wp2_with fail
  refine (HL1.out w6).mono ?_
  rintro e w7 ⟨rfl, hx⟩
  have HX7 := Lib.hid (HX6.out.trans hx)
  clear hx
  go_wp2_with fail
  refine (HL2.out w7).mono ?_
  rintro e w8 ⟨rfl, hx⟩
  have HX8 := Lib.hid (HX7.out.trans hx)
  clear hx
  go_wp2_with fail
  refine (HNE.out w8).mono ?_
  rintro e w9 ⟨r, rfl, hr0, hr1, hx⟩
  have HX9 := Lib.hid (HX8.out.trans hx)
  clear hx
  rw [show (-1 - (n : Int)) = -((n + 1 : Nat) : Int) by omega] at hr1
  have hrb := Fl.rate_neg (by omega) (show 0 < n + 1 by omega) (by omega) hr1
  have HL3 := Lib.hid (fun u => C.less r 18318360957983683996 u hr0 (by omega))
  rw [K_e300, decide_eq_false (by omega)] at HL3
  clear hr0 hr1 hrb
  go_wp2_with fail
  refine (HL3.out w9).mono ?_
  rintro e w10 ⟨rfl, hx⟩
  have HX10 := Lib.hid (HX9.out.trans hx)
  clear hx
  go_wp2
  go_ret
  exact ⟨rfl, HX10.out⟩
set_option maxHeartbeats 1600000 in
theorem rates15_llz (C : ScoreSaid) (b n m : Nat) (w : World) (hb : b < 18446744073709551616) (hn : n < 65536) (hm : m < 65536) (h1 : 0 < b) (h2 : n < m) :
    Calls Try.prog 8 #[.int .u64 0, .int .u64 (b : Int), .int .u16 (n : Int), .int .u16 (m : Int)] w (Holds w) := by
  have HX := Lib.hid (fun u => C.rate 0 ((n + 1 : Nat) : Int) u (by omega) (by omega) (by omega))
  have HY := Lib.hid (fun u => C.rate b ((n + 1 : Nat) : Int) u (by omega) (by omega) (by omega))
  have HFE := Lib.hid (fun u => C.rate 0 ((n + 1 : Nat) : Int) u (by omega) (by omega) (by omega))
  have HMA := Lib.hid (fun u => C.rate 0 ((m + 1 : Nat) : Int) u (by omega) (by omega) (by omega))
  have HNO := Lib.hid (fun u => C.rate 0 0 u (by omega) (by omega) (by omega))
  have HNE := Lib.hid (fun u => C.rate 0 (-1 - (n : Int)) u (by omega) (by omega) (by omega))
  go_enter Try.func8, Try.ntmps8
  go_wp2_with fail
  refine (awake15 C w).mono ?_
  rintro e w1 ⟨rfl, hx⟩
  have HX1 := Lib.hid hx
  clear hx
  go_wp2_with fail
  refine (HX.out w1).mono ?_
  rintro e w2 ⟨x, rfl, hx0, hx1, hx⟩
  have HX2 := Lib.hid (HX1.out.trans hx)
  clear hx
  go_wp2_with fail
  refine (HY.out w2).mono ?_
  rintro e w3 ⟨y, rfl, hy0, hy1, hx⟩
  have HX3 := Lib.hid (HX2.out.trans hx)
  clear hx
  have hxy := Fl.rate_fee (show 0 ≤ b by omega) (by omega) (show 0 < n + 1 by omega) (by omega) hx1 hy1
  have HL1 := Lib.hid (fun u => C.less y x u hy0 hx0)
  rw [decide_eq_false (by omega)] at HL1
  clear hx1 hy1 hxy hx0 hy0
  go_wp2_with fail
  refine (HFE.out w3).mono ?_
  rintro e w4 ⟨few, rfl, hf0, hf1, hx⟩
  have HX4 := Lib.hid (HX3.out.trans hx)
  clear hx
  go_wp2_with fail
  refine (HMA.out w4).mono ?_
  rintro e w5 ⟨many, rfl, hm0, hm1, hx⟩
  have HX5 := Lib.hid (HX4.out.trans hx)
  clear hx
  have hfm := Fl.rate_bytes (a := 0) (by omega) (show n + 1 ≤ m + 1 by omega) (by omega) (by omega) hf1 hm1
  have HL2 := Lib.hid (fun u => C.less few many u hf0 hm0)
  rw [decide_eq_false (by omega)] at HL2
  clear hf1 hm1 hfm hf0 hm0
  go_wp2_with fail
  refine (HNO.out w5).mono ?_
  rintro e w6 ⟨none, rfl, ho0, ho1, hx⟩
  have HX6 := Lib.hid (HX5.out.trans hx)
  clear hx
  have hk := Fl.rate_none (a := 0) (by omega) ho1
  rw [if_pos rfl] at hk
  have hnn := Fl.K_nan.2 hk
  have f1 := Fl.gt_is none 9094988921128908188
  rw [decide_eq_false (fun h => h.1 hnn)] at f1
  have HNN := Lib.hid (fun u => (ref15_nan none u).mono fun _ _ h => h.tells)
  rw [decide_eq_true hnn] at HNN
  clear ho1 hk hnn
  go_wp2_with fail
  refine (HL1.out w6).mono ?_
  rintro e w7 ⟨rfl, hx⟩
  have HX7 := Lib.hid (HX6.out.trans hx)
  clear hx
  go_wp2_with fail
  refine (HL2.out w7).mono ?_
  rintro e w8 ⟨rfl, hx⟩
  have HX8 := Lib.hid (HX7.out.trans hx)
  clear hx
  go_wp2_with fail
  refine (HNN.out w8).mono ?_
  rintro e w9 ⟨rfl, hx⟩
  have HX9 := Lib.hid (HX8.out.trans hx)
  clear hx
  go_wp2_with fail
  refine (HNE.out w9).mono ?_
  rintro e w10 ⟨r, rfl, hr0, hr1, hx⟩
  have HX10 := Lib.hid (HX9.out.trans hx)
  clear hx
  rw [show (-1 - (n : Int)) = -((n + 1 : Nat) : Int) by omega] at hr1
  have hrb := Fl.rate_neg (by omega) (show 0 < n + 1 by omega) (by omega) hr1
  have HL3 := Lib.hid (fun u => C.less r 18318360957983683996 u hr0 (by omega))
  rw [K_e300, decide_eq_false (by omega)] at HL3
  clear hr0 hr1 hrb
  go_wp2_with fail
  refine (HL3.out w10).mono ?_
  rintro e w11 ⟨rfl, hx⟩
  have HX11 := Lib.hid (HX10.out.trans hx)
  clear hx
  go_wp2
  go_ret
  exact ⟨rfl, HX11.out⟩
set_option maxHeartbeats 1600000 in
theorem rates15_lep (C : ScoreSaid) (a b n : Nat) (w : World) (ha : a < 18446744073709551616) (hb : b < 18446744073709551616) (hn : n < 65536) (h1 : a < b) (h3 : 0 < a) :
    Calls Try.prog 8 #[.int .u64 (a : Int), .int .u64 (b : Int), .int .u16 (n : Int), .int .u16 (n : Int)] w (Holds w) := by
  have HX := Lib.hid (fun u => C.rate a ((n + 1 : Nat) : Int) u (by omega) (by omega) (by omega))
  have HY := Lib.hid (fun u => C.rate b ((n + 1 : Nat) : Int) u (by omega) (by omega) (by omega))
  have HFE := Lib.hid (fun u => C.rate a ((n + 1 : Nat) : Int) u (by omega) (by omega) (by omega))
  have HMA := Lib.hid (fun u => C.rate a ((n + 1 : Nat) : Int) u (by omega) (by omega) (by omega))
  have HNO := Lib.hid (fun u => C.rate a 0 u (by omega) (by omega) (by omega))
  have HNE := Lib.hid (fun u => C.rate a (-1 - (n : Int)) u (by omega) (by omega) (by omega))
  go_enter Try.func8, Try.ntmps8
  go_wp2_with fail
  refine (awake15 C w).mono ?_
  rintro e w1 ⟨rfl, hx⟩
  have HX1 := Lib.hid hx
  clear hx
  go_wp2_with fail
  refine (HX.out w1).mono ?_
  rintro e w2 ⟨x, rfl, hx0, hx1, hx⟩
  have HX2 := Lib.hid (HX1.out.trans hx)
  clear hx
  go_wp2_with fail
  refine (HY.out w2).mono ?_
  rintro e w3 ⟨y, rfl, hy0, hy1, hx⟩
  have HX3 := Lib.hid (HX2.out.trans hx)
  clear hx
  have hxy := Fl.rate_fee (show a ≤ b by omega) (by omega) (show 0 < n + 1 by omega) (by omega) hx1 hy1
  have HL1 := Lib.hid (fun u => C.less y x u hy0 hx0)
  rw [decide_eq_false (by omega)] at HL1
  clear hx1 hy1 hxy hx0 hy0
  go_wp2_with fail
  refine (HFE.out w3).mono ?_
  rintro e w4 ⟨few, rfl, hf0, hf1, hx⟩
  have HX4 := Lib.hid (HX3.out.trans hx)
  clear hx
  go_wp2_with fail
  refine (HMA.out w4).mono ?_
  rintro e w5 ⟨many, rfl, hm0, hm1, hx⟩
  have HX5 := Lib.hid (HX4.out.trans hx)
  clear hx
  have hfm := Fl.rate_bytes (a := a) (by omega) (show n + 1 ≤ n + 1 by omega) (by omega) (by omega) hf1 hm1
  have HL2 := Lib.hid (fun u => C.less few many u hf0 hm0)
  rw [decide_eq_false (by omega)] at HL2
  clear hf1 hm1 hfm hf0 hm0
  go_wp2_with fail
  refine (HNO.out w5).mono ?_
  rintro e w6 ⟨none, rfl, ho0, ho1, hx⟩
  have HX6 := Lib.hid (HX5.out.trans hx)
  clear hx
  have hk := Fl.rate_none ha ho1
  rw [if_neg (by omega)] at hk
  obtain ⟨p1, p2, p3⟩ := mul_inf hk
  have f1 := Fl.gt_is none 9094988921128908188
  rw [decide_eq_true ⟨p2, v_e300.1, by rw [p3]; exact v_e300.2⟩] at f1
  have hs := fun W t => run_float_arith (P := Try.prog) W .mul t .f64 _ _ _ p1
  have f2 := Fl.eq_is none 9218868437227405312
  rw [decide_eq_true ⟨p2, by unfold Fl.IsNan Fl.rung; omega, by rw [p3]; exact v_inf.symm⟩] at f2
  clear ho1 hk p1 p2 p3
  go_wp2_with fail
  refine (HL1.out w6).mono ?_
  rintro e w7 ⟨rfl, hx⟩
  have HX7 := Lib.hid (HX6.out.trans hx)
  clear hx
  go_wp2_with fail
  refine (HL2.out w7).mono ?_
  rintro e w8 ⟨rfl, hx⟩
  have HX8 := Lib.hid (HX7.out.trans hx)
  clear hx
  go_wp2_with fail
  refine (HNE.out w8).mono ?_
  rintro e w9 ⟨r, rfl, hr0, hr1, hx⟩
  have HX9 := Lib.hid (HX8.out.trans hx)
  clear hx
  rw [show (-1 - (n : Int)) = -((n + 1 : Nat) : Int) by omega] at hr1
  have hrb := Fl.rate_neg (by omega) (show 0 < n + 1 by omega) (by omega) hr1
  have HL3 := Lib.hid (fun u => C.less r 18318360957983683996 u hr0 (by omega))
  rw [K_e300, decide_eq_false (by omega)] at HL3
  clear hr0 hr1 hrb
  go_wp2_with fail
  refine (HL3.out w9).mono ?_
  rintro e w10 ⟨rfl, hx⟩
  have HX10 := Lib.hid (HX9.out.trans hx)
  clear hx
  go_wp2
  go_ret
  exact ⟨rfl, HX10.out⟩
set_option maxHeartbeats 1600000 in
theorem rates15_lez (C : ScoreSaid) (b n : Nat) (w : World) (hb : b < 18446744073709551616) (hn : n < 65536) (h1 : 0 < b) :
    Calls Try.prog 8 #[.int .u64 0, .int .u64 (b : Int), .int .u16 (n : Int), .int .u16 (n : Int)] w (Holds w) := by
  have HX := Lib.hid (fun u => C.rate 0 ((n + 1 : Nat) : Int) u (by omega) (by omega) (by omega))
  have HY := Lib.hid (fun u => C.rate b ((n + 1 : Nat) : Int) u (by omega) (by omega) (by omega))
  have HFE := Lib.hid (fun u => C.rate 0 ((n + 1 : Nat) : Int) u (by omega) (by omega) (by omega))
  have HMA := Lib.hid (fun u => C.rate 0 ((n + 1 : Nat) : Int) u (by omega) (by omega) (by omega))
  have HNO := Lib.hid (fun u => C.rate 0 0 u (by omega) (by omega) (by omega))
  have HNE := Lib.hid (fun u => C.rate 0 (-1 - (n : Int)) u (by omega) (by omega) (by omega))
  go_enter Try.func8, Try.ntmps8
  go_wp2_with fail
  refine (awake15 C w).mono ?_
  rintro e w1 ⟨rfl, hx⟩
  have HX1 := Lib.hid hx
  clear hx
  go_wp2_with fail
  refine (HX.out w1).mono ?_
  rintro e w2 ⟨x, rfl, hx0, hx1, hx⟩
  have HX2 := Lib.hid (HX1.out.trans hx)
  clear hx
  go_wp2_with fail
  refine (HY.out w2).mono ?_
  rintro e w3 ⟨y, rfl, hy0, hy1, hx⟩
  have HX3 := Lib.hid (HX2.out.trans hx)
  clear hx
  have hxy := Fl.rate_fee (show 0 ≤ b by omega) (by omega) (show 0 < n + 1 by omega) (by omega) hx1 hy1
  have HL1 := Lib.hid (fun u => C.less y x u hy0 hx0)
  rw [decide_eq_false (by omega)] at HL1
  clear hx1 hy1 hxy hx0 hy0
  go_wp2_with fail
  refine (HFE.out w3).mono ?_
  rintro e w4 ⟨few, rfl, hf0, hf1, hx⟩
  have HX4 := Lib.hid (HX3.out.trans hx)
  clear hx
  go_wp2_with fail
  refine (HMA.out w4).mono ?_
  rintro e w5 ⟨many, rfl, hm0, hm1, hx⟩
  have HX5 := Lib.hid (HX4.out.trans hx)
  clear hx
  have hfm := Fl.rate_bytes (a := 0) (by omega) (show n + 1 ≤ n + 1 by omega) (by omega) (by omega) hf1 hm1
  have HL2 := Lib.hid (fun u => C.less few many u hf0 hm0)
  rw [decide_eq_false (by omega)] at HL2
  clear hf1 hm1 hfm hf0 hm0
  go_wp2_with fail
  refine (HNO.out w5).mono ?_
  rintro e w6 ⟨none, rfl, ho0, ho1, hx⟩
  have HX6 := Lib.hid (HX5.out.trans hx)
  clear hx
  have hk := Fl.rate_none (a := 0) (by omega) ho1
  rw [if_pos rfl] at hk
  have hnn := Fl.K_nan.2 hk
  have f1 := Fl.gt_is none 9094988921128908188
  rw [decide_eq_false (fun h => h.1 hnn)] at f1
  have HNN := Lib.hid (fun u => (ref15_nan none u).mono fun _ _ h => h.tells)
  rw [decide_eq_true hnn] at HNN
  clear ho1 hk hnn
  go_wp2_with fail
  refine (HL1.out w6).mono ?_
  rintro e w7 ⟨rfl, hx⟩
  have HX7 := Lib.hid (HX6.out.trans hx)
  clear hx
  go_wp2_with fail
  refine (HL2.out w7).mono ?_
  rintro e w8 ⟨rfl, hx⟩
  have HX8 := Lib.hid (HX7.out.trans hx)
  clear hx
  go_wp2_with fail
  refine (HNN.out w8).mono ?_
  rintro e w9 ⟨rfl, hx⟩
  have HX9 := Lib.hid (HX8.out.trans hx)
  clear hx
  go_wp2_with fail
  refine (HNE.out w9).mono ?_
  rintro e w10 ⟨r, rfl, hr0, hr1, hx⟩
  have HX10 := Lib.hid (HX9.out.trans hx)
  clear hx
  rw [show (-1 - (n : Int)) = -((n + 1 : Nat) : Int) by omega] at hr1
  have hrb := Fl.rate_neg (by omega) (show 0 < n + 1 by omega) (by omega) hr1
  have HL3 := Lib.hid (fun u => C.less r 18318360957983683996 u hr0 (by omega))
  rw [K_e300, decide_eq_false (by omega)] at HL3
  clear hr0 hr1 hrb
  go_wp2_with fail
  refine (HL3.out w10).mono ?_
  rintro e w11 ⟨rfl, hx⟩
  have HX11 := Lib.hid (HX10.out.trans hx)
  clear hx
  go_wp2
  go_ret
  exact ⟨rfl, HX11.out⟩
end Go.Proofs.Ytbgpgdbheajekaa

/-
  ScoreRates, walked: some orders of the fees and of the bytes. Conditions: those of ScoreSaid.
-/
namespace Go.Proofs.Ytbgpgdbheajekaa
open Go.RowKit
open Pol (co)
open Fl (K v rung sgn IsNan RndOk rnd sg rq S U IsRate)

set_option maxHeartbeats 1600000 in
theorem rates15_lgp (C : ScoreSaid) (a b n m : Nat) (w : World) (ha : a < 18446744073709551616) (hb : b < 18446744073709551616) (hn : n < 65536) (hm : m < 65536) (h1 : a < b) (h2 : m < n) (h3 : 0 < a) :
    Calls Try.prog 8 #[.int .u64 (a : Int), .int .u64 (b : Int), .int .u16 (n : Int), .int .u16 (m : Int)] w (Holds w) := by
  have HX := Lib.hid (fun u => C.rate a ((n + 1 : Nat) : Int) u (by omega) (by omega) (by omega))
  have HY := Lib.hid (fun u => C.rate b ((n + 1 : Nat) : Int) u (by omega) (by omega) (by omega))
  have HFE := Lib.hid (fun u => C.rate a ((m + 1 : Nat) : Int) u (by omega) (by omega) (by omega))
  have HMA := Lib.hid (fun u => C.rate a ((n + 1 : Nat) : Int) u (by omega) (by omega) (by omega))
  have HNO := Lib.hid (fun u => C.rate a 0 u (by omega) (by omega) (by omega))
  have HNE := Lib.hid (fun u => C.rate a (-1 - (n : Int)) u (by omega) (by omega) (by omega))
  go_enter Try.func8, Try.ntmps8
  go_wp2_with fail
  refine (awake15 C w).mono ?_
  rintro e w1 ⟨rfl, hx⟩
  have HX1 := Lib.hid hx
  clear hx
  go_wp2_with fail
  refine (HX.out w1).mono ?_
  rintro e w2 ⟨x, rfl, hx0, hx1, hx⟩
  have HX2 := Lib.hid (HX1.out.trans hx)
  clear hx
  go_wp2_with fail
  refine (HY.out w2).mono ?_
  rintro e w3 ⟨y, rfl, hy0, hy1, hx⟩
  have HX3 := Lib.hid (HX2.out.trans hx)
  clear hx
  have hxy := Fl.rate_fee (show a ≤ b by omega) (by omega) (show 0 < n + 1 by omega) (by omega) hx1 hy1
  have HL1 := Lib.hid (fun u => C.less y x u hy0 hx0)
  rw [decide_eq_false (by omega)] at HL1
  clear hx1 hy1 hxy hx0 hy0
  go_wp2_with fail
  refine (HFE.out w3).mono ?_
  rintro e w4 ⟨few, rfl, hf0, hf1, hx⟩
  have HX4 := Lib.hid (HX3.out.trans hx)
  clear hx
  go_wp2_with fail
  refine (HMA.out w4).mono ?_
  rintro e w5 ⟨many, rfl, hm0, hm1, hx⟩
  have HX5 := Lib.hid (HX4.out.trans hx)
  clear hx
  have hfm := Fl.rate_bytes (a := a) (by omega) (show m + 1 ≤ n + 1 by omega) (by omega) (by omega) hf1 hm1
  have HL2 := Lib.hid (fun u => C.less few many u hf0 hm0)
  rw [decide_eq_false (by omega)] at HL2
  clear hf1 hm1 hfm hf0 hm0
  go_wp2_with fail
  refine (HNO.out w5).mono ?_
  rintro e w6 ⟨none, rfl, ho0, ho1, hx⟩
  have HX6 := Lib.hid (HX5.out.trans hx)
  clear hx
  have hk := Fl.rate_none ha ho1
  rw [if_neg (by omega)] at hk
  obtain ⟨p1, p2, p3⟩ := mul_inf hk
  have f1 := Fl.gt_is none 9094988921128908188
  rw [decide_eq_true ⟨p2, v_e300.1, by rw [p3]; exact v_e300.2⟩] at f1
  have hs := fun W t => run_float_arith (P := Try.prog) W .mul t .f64 _ _ _ p1
  have f2 := Fl.eq_is none 9218868437227405312
  rw [decide_eq_true ⟨p2, by unfold Fl.IsNan Fl.rung; omega, by rw [p3]; exact v_inf.symm⟩] at f2
  clear ho1 hk p1 p2 p3
  go_wp2_with fail
  refine (HL1.out w6).mono ?_
  rintro e w7 ⟨rfl, hx⟩
  have HX7 := Lib.hid (HX6.out.trans hx)
  clear hx
  go_wp2_with fail
  refine (HL2.out w7).mono ?_
  rintro e w8 ⟨rfl, hx⟩
  have HX8 := Lib.hid (HX7.out.trans hx)
  clear hx
  go_wp2_with fail
  refine (HNE.out w8).mono ?_
  rintro e w9 ⟨r, rfl, hr0, hr1, hx⟩
  have HX9 := Lib.hid (HX8.out.trans hx)
  clear hx
  rw [show (-1 - (n : Int)) = -((n + 1 : Nat) : Int) by omega] at hr1
  have hrb := Fl.rate_neg (by omega) (show 0 < n + 1 by omega) (by omega) hr1
  have HL3 := Lib.hid (fun u => C.less r 18318360957983683996 u hr0 (by omega))
  rw [K_e300, decide_eq_false (by omega)] at HL3
  clear hr0 hr1 hrb
  go_wp2_with fail
  refine (HL3.out w9).mono ?_
  rintro e w10 ⟨rfl, hx⟩
  have HX10 := Lib.hid (HX9.out.trans hx)
  clear hx
  go_wp2
  go_ret
  exact ⟨rfl, HX10.out⟩
set_option maxHeartbeats 1600000 in
theorem rates15_lgz (C : ScoreSaid) (b n m : Nat) (w : World) (hb : b < 18446744073709551616) (hn : n < 65536) (hm : m < 65536) (h1 : 0 < b) (h2 : m < n) :
    Calls Try.prog 8 #[.int .u64 0, .int .u64 (b : Int), .int .u16 (n : Int), .int .u16 (m : Int)] w (Holds w) := by
  have HX := Lib.hid (fun u => C.rate 0 ((n + 1 : Nat) : Int) u (by omega) (by omega) (by omega))
  have HY := Lib.hid (fun u => C.rate b ((n + 1 : Nat) : Int) u (by omega) (by omega) (by omega))
  have HFE := Lib.hid (fun u => C.rate 0 ((m + 1 : Nat) : Int) u (by omega) (by omega) (by omega))
  have HMA := Lib.hid (fun u => C.rate 0 ((n + 1 : Nat) : Int) u (by omega) (by omega) (by omega))
  have HNO := Lib.hid (fun u => C.rate 0 0 u (by omega) (by omega) (by omega))
  have HNE := Lib.hid (fun u => C.rate 0 (-1 - (n : Int)) u (by omega) (by omega) (by omega))
  go_enter Try.func8, Try.ntmps8
  go_wp2_with fail
  refine (awake15 C w).mono ?_
  rintro e w1 ⟨rfl, hx⟩
  have HX1 := Lib.hid hx
  clear hx
  go_wp2_with fail
  refine (HX.out w1).mono ?_
  rintro e w2 ⟨x, rfl, hx0, hx1, hx⟩
  have HX2 := Lib.hid (HX1.out.trans hx)
  clear hx
  go_wp2_with fail
  refine (HY.out w2).mono ?_
  rintro e w3 ⟨y, rfl, hy0, hy1, hx⟩
  have HX3 := Lib.hid (HX2.out.trans hx)
  clear hx
  have hxy := Fl.rate_fee (show 0 ≤ b by omega) (by omega) (show 0 < n + 1 by omega) (by omega) hx1 hy1
  have HL1 := Lib.hid (fun u => C.less y x u hy0 hx0)
  rw [decide_eq_false (by omega)] at HL1
  clear hx1 hy1 hxy hx0 hy0
  go_wp2_with fail
  refine (HFE.out w3).mono ?_
  rintro e w4 ⟨few, rfl, hf0, hf1, hx⟩
  have HX4 := Lib.hid (HX3.out.trans hx)
  clear hx
  go_wp2_with fail
  refine (HMA.out w4).mono ?_
  rintro e w5 ⟨many, rfl, hm0, hm1, hx⟩
  have HX5 := Lib.hid (HX4.out.trans hx)
  clear hx
  have hfm := Fl.rate_bytes (a := 0) (by omega) (show m + 1 ≤ n + 1 by omega) (by omega) (by omega) hf1 hm1
  have HL2 := Lib.hid (fun u => C.less few many u hf0 hm0)
  rw [decide_eq_false (by omega)] at HL2
  clear hf1 hm1 hfm hf0 hm0
  go_wp2_with fail
  refine (HNO.out w5).mono ?_
  rintro e w6 ⟨none, rfl, ho0, ho1, hx⟩
  have HX6 := Lib.hid (HX5.out.trans hx)
  clear hx
  have hk := Fl.rate_none (a := 0) (by omega) ho1
  rw [if_pos rfl] at hk
  have hnn := Fl.K_nan.2 hk
  have f1 := Fl.gt_is none 9094988921128908188
  rw [decide_eq_false (fun h => h.1 hnn)] at f1
  have HNN := Lib.hid (fun u => (ref15_nan none u).mono fun _ _ h => h.tells)
  rw [decide_eq_true hnn] at HNN
  clear ho1 hk hnn
  go_wp2_with fail
  refine (HL1.out w6).mono ?_
  rintro e w7 ⟨rfl, hx⟩
  have HX7 := Lib.hid (HX6.out.trans hx)
  clear hx
  go_wp2_with fail
  refine (HL2.out w7).mono ?_
  rintro e w8 ⟨rfl, hx⟩
  have HX8 := Lib.hid (HX7.out.trans hx)
  clear hx
  go_wp2_with fail
  refine (HNN.out w8).mono ?_
  rintro e w9 ⟨rfl, hx⟩
  have HX9 := Lib.hid (HX8.out.trans hx)
  clear hx
  go_wp2_with fail
  refine (HNE.out w9).mono ?_
  rintro e w10 ⟨r, rfl, hr0, hr1, hx⟩
  have HX10 := Lib.hid (HX9.out.trans hx)
  clear hx
  rw [show (-1 - (n : Int)) = -((n + 1 : Nat) : Int) by omega] at hr1
  have hrb := Fl.rate_neg (by omega) (show 0 < n + 1 by omega) (by omega) hr1
  have HL3 := Lib.hid (fun u => C.less r 18318360957983683996 u hr0 (by omega))
  rw [K_e300, decide_eq_false (by omega)] at HL3
  clear hr0 hr1 hrb
  go_wp2_with fail
  refine (HL3.out w10).mono ?_
  rintro e w11 ⟨rfl, hx⟩
  have HX11 := Lib.hid (HX10.out.trans hx)
  clear hx
  go_wp2
  go_ret
  exact ⟨rfl, HX11.out⟩
set_option maxHeartbeats 1600000 in
theorem rates15_elp (C : ScoreSaid) (a n m : Nat) (w : World) (ha : a < 18446744073709551616) (hn : n < 65536) (hm : m < 65536) (h2 : n < m) (h3 : 0 < a) :
    Calls Try.prog 8 #[.int .u64 (a : Int), .int .u64 (a : Int), .int .u16 (n : Int), .int .u16 (m : Int)] w (Holds w) := by
  have HX := Lib.hid (fun u => C.rate a ((n + 1 : Nat) : Int) u (by omega) (by omega) (by omega))
  have HY := Lib.hid (fun u => C.rate a ((n + 1 : Nat) : Int) u (by omega) (by omega) (by omega))
  have HFE := Lib.hid (fun u => C.rate a ((n + 1 : Nat) : Int) u (by omega) (by omega) (by omega))
  have HMA := Lib.hid (fun u => C.rate a ((m + 1 : Nat) : Int) u (by omega) (by omega) (by omega))
  have HNO := Lib.hid (fun u => C.rate a 0 u (by omega) (by omega) (by omega))
  have HNE := Lib.hid (fun u => C.rate a (-1 - (n : Int)) u (by omega) (by omega) (by omega))
  go_enter Try.func8, Try.ntmps8
  go_wp2_with fail
  refine (awake15 C w).mono ?_
  rintro e w1 ⟨rfl, hx⟩
  have HX1 := Lib.hid hx
  clear hx
  go_wp2_with fail
  refine (HX.out w1).mono ?_
  rintro e w2 ⟨x, rfl, hx0, hx1, hx⟩
  have HX2 := Lib.hid (HX1.out.trans hx)
  clear hx
  go_wp2_with fail
  refine (HY.out w2).mono ?_
  rintro e w3 ⟨y, rfl, hy0, hy1, hx⟩
  have HX3 := Lib.hid (HX2.out.trans hx)
  clear hx
  have hxy := Fl.rate_fee (show a ≤ a by omega) (by omega) (show 0 < n + 1 by omega) (by omega) hx1 hy1
  have HL1 := Lib.hid (fun u => C.less y x u hy0 hx0)
  rw [decide_eq_false (by omega)] at HL1
  clear hx1 hy1 hxy hx0 hy0
  go_wp2_with fail
  refine (HFE.out w3).mono ?_
  rintro e w4 ⟨few, rfl, hf0, hf1, hx⟩
  have HX4 := Lib.hid (HX3.out.trans hx)
  clear hx
  go_wp2_with fail
  refine (HMA.out w4).mono ?_
  rintro e w5 ⟨many, rfl, hm0, hm1, hx⟩
  have HX5 := Lib.hid (HX4.out.trans hx)
  clear hx
  have hfm := Fl.rate_bytes (a := a) (by omega) (show n + 1 ≤ m + 1 by omega) (by omega) (by omega) hf1 hm1
  have HL2 := Lib.hid (fun u => C.less few many u hf0 hm0)
  rw [decide_eq_false (by omega)] at HL2
  clear hf1 hm1 hfm hf0 hm0
  go_wp2_with fail
  refine (HNO.out w5).mono ?_
  rintro e w6 ⟨none, rfl, ho0, ho1, hx⟩
  have HX6 := Lib.hid (HX5.out.trans hx)
  clear hx
  have hk := Fl.rate_none ha ho1
  rw [if_neg (by omega)] at hk
  obtain ⟨p1, p2, p3⟩ := mul_inf hk
  have f1 := Fl.gt_is none 9094988921128908188
  rw [decide_eq_true ⟨p2, v_e300.1, by rw [p3]; exact v_e300.2⟩] at f1
  have hs := fun W t => run_float_arith (P := Try.prog) W .mul t .f64 _ _ _ p1
  have f2 := Fl.eq_is none 9218868437227405312
  rw [decide_eq_true ⟨p2, by unfold Fl.IsNan Fl.rung; omega, by rw [p3]; exact v_inf.symm⟩] at f2
  clear ho1 hk p1 p2 p3
  go_wp2_with fail
  refine (HL1.out w6).mono ?_
  rintro e w7 ⟨rfl, hx⟩
  have HX7 := Lib.hid (HX6.out.trans hx)
  clear hx
  go_wp2_with fail
  refine (HL2.out w7).mono ?_
  rintro e w8 ⟨rfl, hx⟩
  have HX8 := Lib.hid (HX7.out.trans hx)
  clear hx
  go_wp2_with fail
  refine (HNE.out w8).mono ?_
  rintro e w9 ⟨r, rfl, hr0, hr1, hx⟩
  have HX9 := Lib.hid (HX8.out.trans hx)
  clear hx
  rw [show (-1 - (n : Int)) = -((n + 1 : Nat) : Int) by omega] at hr1
  have hrb := Fl.rate_neg (by omega) (show 0 < n + 1 by omega) (by omega) hr1
  have HL3 := Lib.hid (fun u => C.less r 18318360957983683996 u hr0 (by omega))
  rw [K_e300, decide_eq_false (by omega)] at HL3
  clear hr0 hr1 hrb
  go_wp2_with fail
  refine (HL3.out w9).mono ?_
  rintro e w10 ⟨rfl, hx⟩
  have HX10 := Lib.hid (HX9.out.trans hx)
  clear hx
  go_wp2
  go_ret
  exact ⟨rfl, HX10.out⟩
set_option maxHeartbeats 1600000 in
theorem rates15_elz (C : ScoreSaid) (n m : Nat) (w : World) (hn : n < 65536) (hm : m < 65536) (h2 : n < m) :
    Calls Try.prog 8 #[.int .u64 0, .int .u64 0, .int .u16 (n : Int), .int .u16 (m : Int)] w (Holds w) := by
  have HX := Lib.hid (fun u => C.rate 0 ((n + 1 : Nat) : Int) u (by omega) (by omega) (by omega))
  have HY := Lib.hid (fun u => C.rate 0 ((n + 1 : Nat) : Int) u (by omega) (by omega) (by omega))
  have HFE := Lib.hid (fun u => C.rate 0 ((n + 1 : Nat) : Int) u (by omega) (by omega) (by omega))
  have HMA := Lib.hid (fun u => C.rate 0 ((m + 1 : Nat) : Int) u (by omega) (by omega) (by omega))
  have HNO := Lib.hid (fun u => C.rate 0 0 u (by omega) (by omega) (by omega))
  have HNE := Lib.hid (fun u => C.rate 0 (-1 - (n : Int)) u (by omega) (by omega) (by omega))
  go_enter Try.func8, Try.ntmps8
  go_wp2_with fail
  refine (awake15 C w).mono ?_
  rintro e w1 ⟨rfl, hx⟩
  have HX1 := Lib.hid hx
  clear hx
  go_wp2_with fail
  refine (HX.out w1).mono ?_
  rintro e w2 ⟨x, rfl, hx0, hx1, hx⟩
  have HX2 := Lib.hid (HX1.out.trans hx)
  clear hx
  go_wp2_with fail
  refine (HY.out w2).mono ?_
  rintro e w3 ⟨y, rfl, hy0, hy1, hx⟩
  have HX3 := Lib.hid (HX2.out.trans hx)
  clear hx
  have hxy := Fl.rate_fee (show 0 ≤ 0 by omega) (by omega) (show 0 < n + 1 by omega) (by omega) hx1 hy1
  have HL1 := Lib.hid (fun u => C.less y x u hy0 hx0)
  rw [decide_eq_false (by omega)] at HL1
  clear hx1 hy1 hxy hx0 hy0
  go_wp2_with fail
  refine (HFE.out w3).mono ?_
  rintro e w4 ⟨few, rfl, hf0, hf1, hx⟩
  have HX4 := Lib.hid (HX3.out.trans hx)
  clear hx
  go_wp2_with fail
  refine (HMA.out w4).mono ?_
  rintro e w5 ⟨many, rfl, hm0, hm1, hx⟩
  have HX5 := Lib.hid (HX4.out.trans hx)
  clear hx
  have hfm := Fl.rate_bytes (a := 0) (by omega) (show n + 1 ≤ m + 1 by omega) (by omega) (by omega) hf1 hm1
  have HL2 := Lib.hid (fun u => C.less few many u hf0 hm0)
  rw [decide_eq_false (by omega)] at HL2
  clear hf1 hm1 hfm hf0 hm0
  go_wp2_with fail
  refine (HNO.out w5).mono ?_
  rintro e w6 ⟨none, rfl, ho0, ho1, hx⟩
  have HX6 := Lib.hid (HX5.out.trans hx)
  clear hx
  have hk := Fl.rate_none (a := 0) (by omega) ho1
  rw [if_pos rfl] at hk
  have hnn := Fl.K_nan.2 hk
  have f1 := Fl.gt_is none 9094988921128908188
  rw [decide_eq_false (fun h => h.1 hnn)] at f1
  have HNN := Lib.hid (fun u => (ref15_nan none u).mono fun _ _ h => h.tells)
  rw [decide_eq_true hnn] at HNN
  clear ho1 hk hnn
  go_wp2_with fail
  refine (HL1.out w6).mono ?_
  rintro e w7 ⟨rfl, hx⟩
  have HX7 := Lib.hid (HX6.out.trans hx)
  clear hx
  go_wp2_with fail
  refine (HL2.out w7).mono ?_
  rintro e w8 ⟨rfl, hx⟩
  have HX8 := Lib.hid (HX7.out.trans hx)
  clear hx
  go_wp2_with fail
  refine (HNN.out w8).mono ?_
  rintro e w9 ⟨rfl, hx⟩
  have HX9 := Lib.hid (HX8.out.trans hx)
  clear hx
  go_wp2_with fail
  refine (HNE.out w9).mono ?_
  rintro e w10 ⟨r, rfl, hr0, hr1, hx⟩
  have HX10 := Lib.hid (HX9.out.trans hx)
  clear hx
  rw [show (-1 - (n : Int)) = -((n + 1 : Nat) : Int) by omega] at hr1
  have hrb := Fl.rate_neg (by omega) (show 0 < n + 1 by omega) (by omega) hr1
  have HL3 := Lib.hid (fun u => C.less r 18318360957983683996 u hr0 (by omega))
  rw [K_e300, decide_eq_false (by omega)] at HL3
  clear hr0 hr1 hrb
  go_wp2_with fail
  refine (HL3.out w10).mono ?_
  rintro e w11 ⟨rfl, hx⟩
  have HX11 := Lib.hid (HX10.out.trans hx)
  clear hx
  go_wp2
  go_ret
  exact ⟨rfl, HX11.out⟩
end Go.Proofs.Ytbgpgdbheajekaa

/-
  ScoreRates, walked: some orders of the fees and of the bytes. Conditions: those of ScoreSaid.
-/
namespace Go.Proofs.Ytbgpgdbheajekaa
open Go.RowKit
open Pol (co)
open Fl (K v rung sgn IsNan RndOk rnd sg rq S U IsRate)

set_option maxHeartbeats 1600000 in
theorem rates15_eep (C : ScoreSaid) (a n : Nat) (w : World) (ha : a < 18446744073709551616) (hn : n < 65536) (h3 : 0 < a) :
    Calls Try.prog 8 #[.int .u64 (a : Int), .int .u64 (a : Int), .int .u16 (n : Int), .int .u16 (n : Int)] w (Holds w) := by
  have HX := Lib.hid (fun u => C.rate a ((n + 1 : Nat) : Int) u (by omega) (by omega) (by omega))
  have HY := Lib.hid (fun u => C.rate a ((n + 1 : Nat) : Int) u (by omega) (by omega) (by omega))
  have HFE := Lib.hid (fun u => C.rate a ((n + 1 : Nat) : Int) u (by omega) (by omega) (by omega))
  have HMA := Lib.hid (fun u => C.rate a ((n + 1 : Nat) : Int) u (by omega) (by omega) (by omega))
  have HNO := Lib.hid (fun u => C.rate a 0 u (by omega) (by omega) (by omega))
  have HNE := Lib.hid (fun u => C.rate a (-1 - (n : Int)) u (by omega) (by omega) (by omega))
  go_enter Try.func8, Try.ntmps8
  go_wp2_with fail
  refine (awake15 C w).mono ?_
  rintro e w1 ⟨rfl, hx⟩
  have HX1 := Lib.hid hx
  clear hx
  go_wp2_with fail
  refine (HX.out w1).mono ?_
  rintro e w2 ⟨x, rfl, hx0, hx1, hx⟩
  have HX2 := Lib.hid (HX1.out.trans hx)
  clear hx
  go_wp2_with fail
  refine (HY.out w2).mono ?_
  rintro e w3 ⟨y, rfl, hy0, hy1, hx⟩
  have HX3 := Lib.hid (HX2.out.trans hx)
  clear hx
  have hxy := Fl.rate_fee (show a ≤ a by omega) (by omega) (show 0 < n + 1 by omega) (by omega) hx1 hy1
  have HL1 := Lib.hid (fun u => C.less y x u hy0 hx0)
  rw [decide_eq_false (by omega)] at HL1
  clear hx1 hy1 hxy hx0 hy0
  go_wp2_with fail
  refine (HFE.out w3).mono ?_
  rintro e w4 ⟨few, rfl, hf0, hf1, hx⟩
  have HX4 := Lib.hid (HX3.out.trans hx)
  clear hx
  go_wp2_with fail
  refine (HMA.out w4).mono ?_
  rintro e w5 ⟨many, rfl, hm0, hm1, hx⟩
  have HX5 := Lib.hid (HX4.out.trans hx)
  clear hx
  have hfm := Fl.rate_bytes (a := a) (by omega) (show n + 1 ≤ n + 1 by omega) (by omega) (by omega) hf1 hm1
  have HL2 := Lib.hid (fun u => C.less few many u hf0 hm0)
  rw [decide_eq_false (by omega)] at HL2
  clear hf1 hm1 hfm hf0 hm0
  go_wp2_with fail
  refine (HNO.out w5).mono ?_
  rintro e w6 ⟨none, rfl, ho0, ho1, hx⟩
  have HX6 := Lib.hid (HX5.out.trans hx)
  clear hx
  have hk := Fl.rate_none ha ho1
  rw [if_neg (by omega)] at hk
  obtain ⟨p1, p2, p3⟩ := mul_inf hk
  have f1 := Fl.gt_is none 9094988921128908188
  rw [decide_eq_true ⟨p2, v_e300.1, by rw [p3]; exact v_e300.2⟩] at f1
  have hs := fun W t => run_float_arith (P := Try.prog) W .mul t .f64 _ _ _ p1
  have f2 := Fl.eq_is none 9218868437227405312
  rw [decide_eq_true ⟨p2, by unfold Fl.IsNan Fl.rung; omega, by rw [p3]; exact v_inf.symm⟩] at f2
  clear ho1 hk p1 p2 p3
  go_wp2_with fail
  refine (HL1.out w6).mono ?_
  rintro e w7 ⟨rfl, hx⟩
  have HX7 := Lib.hid (HX6.out.trans hx)
  clear hx
  go_wp2_with fail
  refine (HL2.out w7).mono ?_
  rintro e w8 ⟨rfl, hx⟩
  have HX8 := Lib.hid (HX7.out.trans hx)
  clear hx
  go_wp2_with fail
  refine (HNE.out w8).mono ?_
  rintro e w9 ⟨r, rfl, hr0, hr1, hx⟩
  have HX9 := Lib.hid (HX8.out.trans hx)
  clear hx
  rw [show (-1 - (n : Int)) = -((n + 1 : Nat) : Int) by omega] at hr1
  have hrb := Fl.rate_neg (by omega) (show 0 < n + 1 by omega) (by omega) hr1
  have HL3 := Lib.hid (fun u => C.less r 18318360957983683996 u hr0 (by omega))
  rw [K_e300, decide_eq_false (by omega)] at HL3
  clear hr0 hr1 hrb
  go_wp2_with fail
  refine (HL3.out w9).mono ?_
  rintro e w10 ⟨rfl, hx⟩
  have HX10 := Lib.hid (HX9.out.trans hx)
  clear hx
  go_wp2
  go_ret
  exact ⟨rfl, HX10.out⟩
set_option maxHeartbeats 1600000 in
theorem rates15_eez (C : ScoreSaid) (n : Nat) (w : World) (hn : n < 65536) :
    Calls Try.prog 8 #[.int .u64 0, .int .u64 0, .int .u16 (n : Int), .int .u16 (n : Int)] w (Holds w) := by
  have HX := Lib.hid (fun u => C.rate 0 ((n + 1 : Nat) : Int) u (by omega) (by omega) (by omega))
  have HY := Lib.hid (fun u => C.rate 0 ((n + 1 : Nat) : Int) u (by omega) (by omega) (by omega))
  have HFE := Lib.hid (fun u => C.rate 0 ((n + 1 : Nat) : Int) u (by omega) (by omega) (by omega))
  have HMA := Lib.hid (fun u => C.rate 0 ((n + 1 : Nat) : Int) u (by omega) (by omega) (by omega))
  have HNO := Lib.hid (fun u => C.rate 0 0 u (by omega) (by omega) (by omega))
  have HNE := Lib.hid (fun u => C.rate 0 (-1 - (n : Int)) u (by omega) (by omega) (by omega))
  go_enter Try.func8, Try.ntmps8
  go_wp2_with fail
  refine (awake15 C w).mono ?_
  rintro e w1 ⟨rfl, hx⟩
  have HX1 := Lib.hid hx
  clear hx
  go_wp2_with fail
  refine (HX.out w1).mono ?_
  rintro e w2 ⟨x, rfl, hx0, hx1, hx⟩
  have HX2 := Lib.hid (HX1.out.trans hx)
  clear hx
  go_wp2_with fail
  refine (HY.out w2).mono ?_
  rintro e w3 ⟨y, rfl, hy0, hy1, hx⟩
  have HX3 := Lib.hid (HX2.out.trans hx)
  clear hx
  have hxy := Fl.rate_fee (show 0 ≤ 0 by omega) (by omega) (show 0 < n + 1 by omega) (by omega) hx1 hy1
  have HL1 := Lib.hid (fun u => C.less y x u hy0 hx0)
  rw [decide_eq_false (by omega)] at HL1
  clear hx1 hy1 hxy hx0 hy0
  go_wp2_with fail
  refine (HFE.out w3).mono ?_
  rintro e w4 ⟨few, rfl, hf0, hf1, hx⟩
  have HX4 := Lib.hid (HX3.out.trans hx)
  clear hx
  go_wp2_with fail
  refine (HMA.out w4).mono ?_
  rintro e w5 ⟨many, rfl, hm0, hm1, hx⟩
  have HX5 := Lib.hid (HX4.out.trans hx)
  clear hx
  have hfm := Fl.rate_bytes (a := 0) (by omega) (show n + 1 ≤ n + 1 by omega) (by omega) (by omega) hf1 hm1
  have HL2 := Lib.hid (fun u => C.less few many u hf0 hm0)
  rw [decide_eq_false (by omega)] at HL2
  clear hf1 hm1 hfm hf0 hm0
  go_wp2_with fail
  refine (HNO.out w5).mono ?_
  rintro e w6 ⟨none, rfl, ho0, ho1, hx⟩
  have HX6 := Lib.hid (HX5.out.trans hx)
  clear hx
  have hk := Fl.rate_none (a := 0) (by omega) ho1
  rw [if_pos rfl] at hk
  have hnn := Fl.K_nan.2 hk
  have f1 := Fl.gt_is none 9094988921128908188
  rw [decide_eq_false (fun h => h.1 hnn)] at f1
  have HNN := Lib.hid (fun u => (ref15_nan none u).mono fun _ _ h => h.tells)
  rw [decide_eq_true hnn] at HNN
  clear ho1 hk hnn
  go_wp2_with fail
  refine (HL1.out w6).mono ?_
  rintro e w7 ⟨rfl, hx⟩
  have HX7 := Lib.hid (HX6.out.trans hx)
  clear hx
  go_wp2_with fail
  refine (HL2.out w7).mono ?_
  rintro e w8 ⟨rfl, hx⟩
  have HX8 := Lib.hid (HX7.out.trans hx)
  clear hx
  go_wp2_with fail
  refine (HNN.out w8).mono ?_
  rintro e w9 ⟨rfl, hx⟩
  have HX9 := Lib.hid (HX8.out.trans hx)
  clear hx
  go_wp2_with fail
  refine (HNE.out w9).mono ?_
  rintro e w10 ⟨r, rfl, hr0, hr1, hx⟩
  have HX10 := Lib.hid (HX9.out.trans hx)
  clear hx
  rw [show (-1 - (n : Int)) = -((n + 1 : Nat) : Int) by omega] at hr1
  have hrb := Fl.rate_neg (by omega) (show 0 < n + 1 by omega) (by omega) hr1
  have HL3 := Lib.hid (fun u => C.less r 18318360957983683996 u hr0 (by omega))
  rw [K_e300, decide_eq_false (by omega)] at HL3
  clear hr0 hr1 hrb
  go_wp2_with fail
  refine (HL3.out w10).mono ?_
  rintro e w11 ⟨rfl, hx⟩
  have HX11 := Lib.hid (HX10.out.trans hx)
  clear hx
  go_wp2
  go_ret
  exact ⟨rfl, HX11.out⟩
set_option maxHeartbeats 1600000 in
theorem rates15_egp (C : ScoreSaid) (a n m : Nat) (w : World) (ha : a < 18446744073709551616) (hn : n < 65536) (hm : m < 65536) (h2 : m < n) (h3 : 0 < a) :
    Calls Try.prog 8 #[.int .u64 (a : Int), .int .u64 (a : Int), .int .u16 (n : Int), .int .u16 (m : Int)] w (Holds w) := by
  have HX := Lib.hid (fun u => C.rate a ((n + 1 : Nat) : Int) u (by omega) (by omega) (by omega))
  have HY := Lib.hid (fun u => C.rate a ((n + 1 : Nat) : Int) u (by omega) (by omega) (by omega))
  have HFE := Lib.hid (fun u => C.rate a ((m + 1 : Nat) : Int) u (by omega) (by omega) (by omega))
  have HMA := Lib.hid (fun u => C.rate a ((n + 1 : Nat) : Int) u (by omega) (by omega) (by omega))
  have HNO := Lib.hid (fun u => C.rate a 0 u (by omega) (by omega) (by omega))
  have HNE := Lib.hid (fun u => C.rate a (-1 - (n : Int)) u (by omega) (by omega) (by omega))
  go_enter Try.func8, Try.ntmps8
  go_wp2_with fail
  refine (awake15 C w).mono ?_
  rintro e w1 ⟨rfl, hx⟩
  have HX1 := Lib.hid hx
  clear hx
  go_wp2_with fail
  refine (HX.out w1).mono ?_
  rintro e w2 ⟨x, rfl, hx0, hx1, hx⟩
  have HX2 := Lib.hid (HX1.out.trans hx)
  clear hx
  go_wp2_with fail
  refine (HY.out w2).mono ?_
  rintro e w3 ⟨y, rfl, hy0, hy1, hx⟩
  have HX3 := Lib.hid (HX2.out.trans hx)
  clear hx
  have hxy := Fl.rate_fee (show a ≤ a by omega) (by omega) (show 0 < n + 1 by omega) (by omega) hx1 hy1
  have HL1 := Lib.hid (fun u => C.less y x u hy0 hx0)
  rw [decide_eq_false (by omega)] at HL1
  clear hx1 hy1 hxy hx0 hy0
  go_wp2_with fail
  refine (HFE.out w3).mono ?_
  rintro e w4 ⟨few, rfl, hf0, hf1, hx⟩
  have HX4 := Lib.hid (HX3.out.trans hx)
  clear hx
  go_wp2_with fail
  refine (HMA.out w4).mono ?_
  rintro e w5 ⟨many, rfl, hm0, hm1, hx⟩
  have HX5 := Lib.hid (HX4.out.trans hx)
  clear hx
  have hfm := Fl.rate_bytes (a := a) (by omega) (show m + 1 ≤ n + 1 by omega) (by omega) (by omega) hf1 hm1
  have HL2 := Lib.hid (fun u => C.less few many u hf0 hm0)
  rw [decide_eq_false (by omega)] at HL2
  clear hf1 hm1 hfm hf0 hm0
  go_wp2_with fail
  refine (HNO.out w5).mono ?_
  rintro e w6 ⟨none, rfl, ho0, ho1, hx⟩
  have HX6 := Lib.hid (HX5.out.trans hx)
  clear hx
  have hk := Fl.rate_none ha ho1
  rw [if_neg (by omega)] at hk
  obtain ⟨p1, p2, p3⟩ := mul_inf hk
  have f1 := Fl.gt_is none 9094988921128908188
  rw [decide_eq_true ⟨p2, v_e300.1, by rw [p3]; exact v_e300.2⟩] at f1
  have hs := fun W t => run_float_arith (P := Try.prog) W .mul t .f64 _ _ _ p1
  have f2 := Fl.eq_is none 9218868437227405312
  rw [decide_eq_true ⟨p2, by unfold Fl.IsNan Fl.rung; omega, by rw [p3]; exact v_inf.symm⟩] at f2
  clear ho1 hk p1 p2 p3
  go_wp2_with fail
  refine (HL1.out w6).mono ?_
  rintro e w7 ⟨rfl, hx⟩
  have HX7 := Lib.hid (HX6.out.trans hx)
  clear hx
  go_wp2_with fail
  refine (HL2.out w7).mono ?_
  rintro e w8 ⟨rfl, hx⟩
  have HX8 := Lib.hid (HX7.out.trans hx)
  clear hx
  go_wp2_with fail
  refine (HNE.out w8).mono ?_
  rintro e w9 ⟨r, rfl, hr0, hr1, hx⟩
  have HX9 := Lib.hid (HX8.out.trans hx)
  clear hx
  rw [show (-1 - (n : Int)) = -((n + 1 : Nat) : Int) by omega] at hr1
  have hrb := Fl.rate_neg (by omega) (show 0 < n + 1 by omega) (by omega) hr1
  have HL3 := Lib.hid (fun u => C.less r 18318360957983683996 u hr0 (by omega))
  rw [K_e300, decide_eq_false (by omega)] at HL3
  clear hr0 hr1 hrb
  go_wp2_with fail
  refine (HL3.out w9).mono ?_
  rintro e w10 ⟨rfl, hx⟩
  have HX10 := Lib.hid (HX9.out.trans hx)
  clear hx
  go_wp2
  go_ret
  exact ⟨rfl, HX10.out⟩
set_option maxHeartbeats 1600000 in
theorem rates15_egz (C : ScoreSaid) (n m : Nat) (w : World) (hn : n < 65536) (hm : m < 65536) (h2 : m < n) :
    Calls Try.prog 8 #[.int .u64 0, .int .u64 0, .int .u16 (n : Int), .int .u16 (m : Int)] w (Holds w) := by
  have HX := Lib.hid (fun u => C.rate 0 ((n + 1 : Nat) : Int) u (by omega) (by omega) (by omega))
  have HY := Lib.hid (fun u => C.rate 0 ((n + 1 : Nat) : Int) u (by omega) (by omega) (by omega))
  have HFE := Lib.hid (fun u => C.rate 0 ((m + 1 : Nat) : Int) u (by omega) (by omega) (by omega))
  have HMA := Lib.hid (fun u => C.rate 0 ((n + 1 : Nat) : Int) u (by omega) (by omega) (by omega))
  have HNO := Lib.hid (fun u => C.rate 0 0 u (by omega) (by omega) (by omega))
  have HNE := Lib.hid (fun u => C.rate 0 (-1 - (n : Int)) u (by omega) (by omega) (by omega))
  go_enter Try.func8, Try.ntmps8
  go_wp2_with fail
  refine (awake15 C w).mono ?_
  rintro e w1 ⟨rfl, hx⟩
  have HX1 := Lib.hid hx
  clear hx
  go_wp2_with fail
  refine (HX.out w1).mono ?_
  rintro e w2 ⟨x, rfl, hx0, hx1, hx⟩
  have HX2 := Lib.hid (HX1.out.trans hx)
  clear hx
  go_wp2_with fail
  refine (HY.out w2).mono ?_
  rintro e w3 ⟨y, rfl, hy0, hy1, hx⟩
  have HX3 := Lib.hid (HX2.out.trans hx)
  clear hx
  have hxy := Fl.rate_fee (show 0 ≤ 0 by omega) (by omega) (show 0 < n + 1 by omega) (by omega) hx1 hy1
  have HL1 := Lib.hid (fun u => C.less y x u hy0 hx0)
  rw [decide_eq_false (by omega)] at HL1
  clear hx1 hy1 hxy hx0 hy0
  go_wp2_with fail
  refine (HFE.out w3).mono ?_
  rintro e w4 ⟨few, rfl, hf0, hf1, hx⟩
  have HX4 := Lib.hid (HX3.out.trans hx)
  clear hx
  go_wp2_with fail
  refine (HMA.out w4).mono ?_
  rintro e w5 ⟨many, rfl, hm0, hm1, hx⟩
  have HX5 := Lib.hid (HX4.out.trans hx)
  clear hx
  have hfm := Fl.rate_bytes (a := 0) (by omega) (show m + 1 ≤ n + 1 by omega) (by omega) (by omega) hf1 hm1
  have HL2 := Lib.hid (fun u => C.less few many u hf0 hm0)
  rw [decide_eq_false (by omega)] at HL2
  clear hf1 hm1 hfm hf0 hm0
  go_wp2_with fail
  refine (HNO.out w5).mono ?_
  rintro e w6 ⟨none, rfl, ho0, ho1, hx⟩
  have HX6 := Lib.hid (HX5.out.trans hx)
  clear hx
  have hk := Fl.rate_none (a := 0) (by omega) ho1
  rw [if_pos rfl] at hk
  have hnn := Fl.K_nan.2 hk
  have f1 := Fl.gt_is none 9094988921128908188
  rw [decide_eq_false (fun h => h.1 hnn)] at f1
  have HNN := Lib.hid (fun u => (ref15_nan none u).mono fun _ _ h => h.tells)
  rw [decide_eq_true hnn] at HNN
  clear ho1 hk hnn
  go_wp2_with fail
  refine (HL1.out w6).mono ?_
  rintro e w7 ⟨rfl, hx⟩
  have HX7 := Lib.hid (HX6.out.trans hx)
  clear hx
  go_wp2_with fail
  refine (HL2.out w7).mono ?_
  rintro e w8 ⟨rfl, hx⟩
  have HX8 := Lib.hid (HX7.out.trans hx)
  clear hx
  go_wp2_with fail
  refine (HNN.out w8).mono ?_
  rintro e w9 ⟨rfl, hx⟩
  have HX9 := Lib.hid (HX8.out.trans hx)
  clear hx
  go_wp2_with fail
  refine (HNE.out w9).mono ?_
  rintro e w10 ⟨r, rfl, hr0, hr1, hx⟩
  have HX10 := Lib.hid (HX9.out.trans hx)
  clear hx
  rw [show (-1 - (n : Int)) = -((n + 1 : Nat) : Int) by omega] at hr1
  have hrb := Fl.rate_neg (by omega) (show 0 < n + 1 by omega) (by omega) hr1
  have HL3 := Lib.hid (fun u => C.less r 18318360957983683996 u hr0 (by omega))
  rw [K_e300, decide_eq_false (by omega)] at HL3
  clear hr0 hr1 hrb
  go_wp2_with fail
  refine (HL3.out w10).mono ?_
  rintro e w11 ⟨rfl, hx⟩
  have HX11 := Lib.hid (HX10.out.trans hx)
  clear hx
  go_wp2
  go_ret
  exact ⟨rfl, HX11.out⟩
end Go.Proofs.Ytbgpgdbheajekaa

/-
  ScoreRates, walked: some orders of the fees and of the bytes. Conditions: those of ScoreSaid.
-/
namespace Go.Proofs.Ytbgpgdbheajekaa
open Go.RowKit
open Pol (co)
open Fl (K v rung sgn IsNan RndOk rnd sg rq S U IsRate)

set_option maxHeartbeats 1600000 in
theorem rates15_glp (C : ScoreSaid) (a b n m : Nat) (w : World) (ha : a < 18446744073709551616) (hb : b < 18446744073709551616) (hn : n < 65536) (hm : m < 65536) (h1 : b < a) (h2 : n < m) (h3 : 0 < a) :
    Calls Try.prog 8 #[.int .u64 (a : Int), .int .u64 (b : Int), .int .u16 (n : Int), .int .u16 (m : Int)] w (Holds w) := by
  have HX := Lib.hid (fun u => C.rate b ((n + 1 : Nat) : Int) u (by omega) (by omega) (by omega))
  have HY := Lib.hid (fun u => C.rate a ((n + 1 : Nat) : Int) u (by omega) (by omega) (by omega))
  have HFE := Lib.hid (fun u => C.rate a ((n + 1 : Nat) : Int) u (by omega) (by omega) (by omega))
  have HMA := Lib.hid (fun u => C.rate a ((m + 1 : Nat) : Int) u (by omega) (by omega) (by omega))
  have HNO := Lib.hid (fun u => C.rate a 0 u (by omega) (by omega) (by omega))
  have HNE := Lib.hid (fun u => C.rate a (-1 - (n : Int)) u (by omega) (by omega) (by omega))
  go_enter Try.func8, Try.ntmps8
  go_wp2_with fail
  refine (awake15 C w).mono ?_
  rintro e w1 ⟨rfl, hx⟩
  have HX1 := Lib.hid hx
  clear hx
  go_wp2_with fail
  refine (HX.out w1).mono ?_
  rintro e w2 ⟨x, rfl, hx0, hx1, hx⟩
  have HX2 := Lib.hid (HX1.out.trans hx)
  clear hx
  go_wp2_with fail
  refine (HY.out w2).mono ?_
  rintro e w3 ⟨y, rfl, hy0, hy1, hx⟩
  have HX3 := Lib.hid (HX2.out.trans hx)
  clear hx
  have hxy := Fl.rate_fee (show b ≤ a by omega) (by omega) (show 0 < n + 1 by omega) (by omega) hx1 hy1
  have HL1 := Lib.hid (fun u => C.less y x u hy0 hx0)
  rw [decide_eq_false (by omega)] at HL1
  clear hx1 hy1 hxy hx0 hy0
  go_wp2_with fail
  refine (HFE.out w3).mono ?_
  rintro e w4 ⟨few, rfl, hf0, hf1, hx⟩
  have HX4 := Lib.hid (HX3.out.trans hx)
  clear hx
  go_wp2_with fail
  refine (HMA.out w4).mono ?_
  rintro e w5 ⟨many, rfl, hm0, hm1, hx⟩
  have HX5 := Lib.hid (HX4.out.trans hx)
  clear hx
  have hfm := Fl.rate_bytes (a := a) (by omega) (show n + 1 ≤ m + 1 by omega) (by omega) (by omega) hf1 hm1
  have HL2 := Lib.hid (fun u => C.less few many u hf0 hm0)
  rw [decide_eq_false (by omega)] at HL2
  clear hf1 hm1 hfm hf0 hm0
  go_wp2_with fail
  refine (HNO.out w5).mono ?_
  rintro e w6 ⟨none, rfl, ho0, ho1, hx⟩
  have HX6 := Lib.hid (HX5.out.trans hx)
  clear hx
  have hk := Fl.rate_none ha ho1
  rw [if_neg (by omega)] at hk
  obtain ⟨p1, p2, p3⟩ := mul_inf hk
  have f1 := Fl.gt_is none 9094988921128908188
  rw [decide_eq_true ⟨p2, v_e300.1, by rw [p3]; exact v_e300.2⟩] at f1
  have hs := fun W t => run_float_arith (P := Try.prog) W .mul t .f64 _ _ _ p1
  have f2 := Fl.eq_is none 9218868437227405312
  rw [decide_eq_true ⟨p2, by unfold Fl.IsNan Fl.rung; omega, by rw [p3]; exact v_inf.symm⟩] at f2
  clear ho1 hk p1 p2 p3
  go_wp2_with fail
  refine (HL1.out w6).mono ?_
  rintro e w7 ⟨rfl, hx⟩
  have HX7 := Lib.hid (HX6.out.trans hx)
  clear hx
  go_wp2_with fail
  refine (HL2.out w7).mono ?_
  rintro e w8 ⟨rfl, hx⟩
  have HX8 := Lib.hid (HX7.out.trans hx)
  clear hx
  go_wp2_with fail
  refine (HNE.out w8).mono ?_
  rintro e w9 ⟨r, rfl, hr0, hr1, hx⟩
  have HX9 := Lib.hid (HX8.out.trans hx)
  clear hx
  rw [show (-1 - (n : Int)) = -((n + 1 : Nat) : Int) by omega] at hr1
  have hrb := Fl.rate_neg (by omega) (show 0 < n + 1 by omega) (by omega) hr1
  have HL3 := Lib.hid (fun u => C.less r 18318360957983683996 u hr0 (by omega))
  rw [K_e300, decide_eq_false (by omega)] at HL3
  clear hr0 hr1 hrb
  go_wp2_with fail
  refine (HL3.out w9).mono ?_
  rintro e w10 ⟨rfl, hx⟩
  have HX10 := Lib.hid (HX9.out.trans hx)
  clear hx
  go_wp2
  go_ret
  exact ⟨rfl, HX10.out⟩
set_option maxHeartbeats 1600000 in
theorem rates15_gep (C : ScoreSaid) (a b n : Nat) (w : World) (ha : a < 18446744073709551616) (hb : b < 18446744073709551616) (hn : n < 65536) (h1 : b < a) (h3 : 0 < a) :
    Calls Try.prog 8 #[.int .u64 (a : Int), .int .u64 (b : Int), .int .u16 (n : Int), .int .u16 (n : Int)] w (Holds w) := by
  have HX := Lib.hid (fun u => C.rate b ((n + 1 : Nat) : Int) u (by omega) (by omega) (by omega))
  have HY := Lib.hid (fun u => C.rate a ((n + 1 : Nat) : Int) u (by omega) (by omega) (by omega))
  have HFE := Lib.hid (fun u => C.rate a ((n + 1 : Nat) : Int) u (by omega) (by omega) (by omega))
  have HMA := Lib.hid (fun u => C.rate a ((n + 1 : Nat) : Int) u (by omega) (by omega) (by omega))
  have HNO := Lib.hid (fun u => C.rate a 0 u (by omega) (by omega) (by omega))
  have HNE := Lib.hid (fun u => C.rate a (-1 - (n : Int)) u (by omega) (by omega) (by omega))
  go_enter Try.func8, Try.ntmps8
  go_wp2_with fail
  refine (awake15 C w).mono ?_
  rintro e w1 ⟨rfl, hx⟩
  have HX1 := Lib.hid hx
  clear hx
  go_wp2_with fail
  refine (HX.out w1).mono ?_
  rintro e w2 ⟨x, rfl, hx0, hx1, hx⟩
  have HX2 := Lib.hid (HX1.out.trans hx)
  clear hx
  go_wp2_with fail
  refine (HY.out w2).mono ?_
  rintro e w3 ⟨y, rfl, hy0, hy1, hx⟩
  have HX3 := Lib.hid (HX2.out.trans hx)
  clear hx
  have hxy := Fl.rate_fee (show b ≤ a by omega) (by omega) (show 0 < n + 1 by omega) (by omega) hx1 hy1
  have HL1 := Lib.hid (fun u => C.less y x u hy0 hx0)
  rw [decide_eq_false (by omega)] at HL1
  clear hx1 hy1 hxy hx0 hy0
  go_wp2_with fail
  refine (HFE.out w3).mono ?_
  rintro e w4 ⟨few, rfl, hf0, hf1, hx⟩
  have HX4 := Lib.hid (HX3.out.trans hx)
  clear hx
  go_wp2_with fail
  refine (HMA.out w4).mono ?_
  rintro e w5 ⟨many, rfl, hm0, hm1, hx⟩
  have HX5 := Lib.hid (HX4.out.trans hx)
  clear hx
  have hfm := Fl.rate_bytes (a := a) (by omega) (show n + 1 ≤ n + 1 by omega) (by omega) (by omega) hf1 hm1
  have HL2 := Lib.hid (fun u => C.less few many u hf0 hm0)
  rw [decide_eq_false (by omega)] at HL2
  clear hf1 hm1 hfm hf0 hm0
  go_wp2_with fail
  refine (HNO.out w5).mono ?_
  rintro e w6 ⟨none, rfl, ho0, ho1, hx⟩
  have HX6 := Lib.hid (HX5.out.trans hx)
  clear hx
  have hk := Fl.rate_none ha ho1
  rw [if_neg (by omega)] at hk
  obtain ⟨p1, p2, p3⟩ := mul_inf hk
  have f1 := Fl.gt_is none 9094988921128908188
  rw [decide_eq_true ⟨p2, v_e300.1, by rw [p3]; exact v_e300.2⟩] at f1
  have hs := fun W t => run_float_arith (P := Try.prog) W .mul t .f64 _ _ _ p1
  have f2 := Fl.eq_is none 9218868437227405312
  rw [decide_eq_true ⟨p2, by unfold Fl.IsNan Fl.rung; omega, by rw [p3]; exact v_inf.symm⟩] at f2
  clear ho1 hk p1 p2 p3
  go_wp2_with fail
  refine (HL1.out w6).mono ?_
  rintro e w7 ⟨rfl, hx⟩
  have HX7 := Lib.hid (HX6.out.trans hx)
  clear hx
  go_wp2_with fail
  refine (HL2.out w7).mono ?_
  rintro e w8 ⟨rfl, hx⟩
  have HX8 := Lib.hid (HX7.out.trans hx)
  clear hx
  go_wp2_with fail
  refine (HNE.out w8).mono ?_
  rintro e w9 ⟨r, rfl, hr0, hr1, hx⟩
  have HX9 := Lib.hid (HX8.out.trans hx)
  clear hx
  rw [show (-1 - (n : Int)) = -((n + 1 : Nat) : Int) by omega] at hr1
  have hrb := Fl.rate_neg (by omega) (show 0 < n + 1 by omega) (by omega) hr1
  have HL3 := Lib.hid (fun u => C.less r 18318360957983683996 u hr0 (by omega))
  rw [K_e300, decide_eq_false (by omega)] at HL3
  clear hr0 hr1 hrb
  go_wp2_with fail
  refine (HL3.out w9).mono ?_
  rintro e w10 ⟨rfl, hx⟩
  have HX10 := Lib.hid (HX9.out.trans hx)
  clear hx
  go_wp2
  go_ret
  exact ⟨rfl, HX10.out⟩
set_option maxHeartbeats 1600000 in
theorem rates15_ggp (C : ScoreSaid) (a b n m : Nat) (w : World) (ha : a < 18446744073709551616) (hb : b < 18446744073709551616) (hn : n < 65536) (hm : m < 65536) (h1 : b < a) (h2 : m < n) (h3 : 0 < a) :
    Calls Try.prog 8 #[.int .u64 (a : Int), .int .u64 (b : Int), .int .u16 (n : Int), .int .u16 (m : Int)] w (Holds w) := by
  have HX := Lib.hid (fun u => C.rate b ((n + 1 : Nat) : Int) u (by omega) (by omega) (by omega))
  have HY := Lib.hid (fun u => C.rate a ((n + 1 : Nat) : Int) u (by omega) (by omega) (by omega))
  have HFE := Lib.hid (fun u => C.rate a ((m + 1 : Nat) : Int) u (by omega) (by omega) (by omega))
  have HMA := Lib.hid (fun u => C.rate a ((n + 1 : Nat) : Int) u (by omega) (by omega) (by omega))
  have HNO := Lib.hid (fun u => C.rate a 0 u (by omega) (by omega) (by omega))
  have HNE := Lib.hid (fun u => C.rate a (-1 - (n : Int)) u (by omega) (by omega) (by omega))
  go_enter Try.func8, Try.ntmps8
  go_wp2_with fail
  refine (awake15 C w).mono ?_
  rintro e w1 ⟨rfl, hx⟩
  have HX1 := Lib.hid hx
  clear hx
  go_wp2_with fail
  refine (HX.out w1).mono ?_
  rintro e w2 ⟨x, rfl, hx0, hx1, hx⟩
  have HX2 := Lib.hid (HX1.out.trans hx)
  clear hx
  go_wp2_with fail
  refine (HY.out w2).mono ?_
  rintro e w3 ⟨y, rfl, hy0, hy1, hx⟩
  have HX3 := Lib.hid (HX2.out.trans hx)
  clear hx
  have hxy := Fl.rate_fee (show b ≤ a by omega) (by omega) (show 0 < n + 1 by omega) (by omega) hx1 hy1
  have HL1 := Lib.hid (fun u => C.less y x u hy0 hx0)
  rw [decide_eq_false (by omega)] at HL1
  clear hx1 hy1 hxy hx0 hy0
  go_wp2_with fail
  refine (HFE.out w3).mono ?_
  rintro e w4 ⟨few, rfl, hf0, hf1, hx⟩
  have HX4 := Lib.hid (HX3.out.trans hx)
  clear hx
  go_wp2_with fail
  refine (HMA.out w4).mono ?_
  rintro e w5 ⟨many, rfl, hm0, hm1, hx⟩
  have HX5 := Lib.hid (HX4.out.trans hx)
  clear hx
  have hfm := Fl.rate_bytes (a := a) (by omega) (show m + 1 ≤ n + 1 by omega) (by omega) (by omega) hf1 hm1
  have HL2 := Lib.hid (fun u => C.less few many u hf0 hm0)
  rw [decide_eq_false (by omega)] at HL2
  clear hf1 hm1 hfm hf0 hm0
  go_wp2_with fail
  refine (HNO.out w5).mono ?_
  rintro e w6 ⟨none, rfl, ho0, ho1, hx⟩
  have HX6 := Lib.hid (HX5.out.trans hx)
  clear hx
  have hk := Fl.rate_none ha ho1
  rw [if_neg (by omega)] at hk
  obtain ⟨p1, p2, p3⟩ := mul_inf hk
  have f1 := Fl.gt_is none 9094988921128908188
  rw [decide_eq_true ⟨p2, v_e300.1, by rw [p3]; exact v_e300.2⟩] at f1
  have hs := fun W t => run_float_arith (P := Try.prog) W .mul t .f64 _ _ _ p1
  have f2 := Fl.eq_is none 9218868437227405312
  rw [decide_eq_true ⟨p2, by unfold Fl.IsNan Fl.rung; omega, by rw [p3]; exact v_inf.symm⟩] at f2
  clear ho1 hk p1 p2 p3
  go_wp2_with fail
  refine (HL1.out w6).mono ?_
  rintro e w7 ⟨rfl, hx⟩
  have HX7 := Lib.hid (HX6.out.trans hx)
  clear hx
  go_wp2_with fail
  refine (HL2.out w7).mono ?_
  rintro e w8 ⟨rfl, hx⟩
  have HX8 := Lib.hid (HX7.out.trans hx)
  clear hx
  go_wp2_with fail
  refine (HNE.out w8).mono ?_
  rintro e w9 ⟨r, rfl, hr0, hr1, hx⟩
  have HX9 := Lib.hid (HX8.out.trans hx)
  clear hx
  rw [show (-1 - (n : Int)) = -((n + 1 : Nat) : Int) by omega] at hr1
  have hrb := Fl.rate_neg (by omega) (show 0 < n + 1 by omega) (by omega) hr1
  have HL3 := Lib.hid (fun u => C.less r 18318360957983683996 u hr0 (by omega))
  rw [K_e300, decide_eq_false (by omega)] at HL3
  clear hr0 hr1 hrb
  go_wp2_with fail
  refine (HL3.out w9).mono ?_
  rintro e w10 ⟨rfl, hx⟩
  have HX10 := Lib.hid (HX9.out.trans hx)
  clear hx
  go_wp2
  go_ret
  exact ⟨rfl, HX10.out⟩
end Go.Proofs.Ytbgpgdbheajekaa

/-
  ScoreRates, walked. Conditions: those of ScoreSaid.
-/
namespace Go.Proofs.Ytbgpgdbheajekaa
open Go.RowKit
open Pol (co)
open Fl (K v rung sgn IsNan RndOk rnd sg rq S U IsRate)

theorem rates15_walk (C : ScoreSaid) (a b n m : Nat) (w : World) (ha : a < 18446744073709551616) (hb : b < 18446744073709551616) (hn : n < 65536) (hm : m < 65536) :
    Calls Try.prog 8 #[.int .u64 (a : Int), .int .u64 (b : Int), .int .u16 (n : Int), .int .u16 (m : Int)] w (Holds w) := by
  by_cases h3 : a = 0
  · subst h3
    by_cases h1 : 0 < b
    · rcases Nat.lt_trichotomy n m with h2 | h2 | h2
      · exact rates15_llz C b n m w hb hn hm h1 h2
      · subst h2
        exact rates15_lez C b n w hb hn h1
      · exact rates15_lgz C b n m w hb hn hm h1 h2
    · obtain rfl : b = 0 := by omega
      rcases Nat.lt_trichotomy n m with h2 | h2 | h2
      · exact rates15_elz C n m w hn hm h2
      · subst h2
        exact rates15_eez C n w hn
      · exact rates15_egz C n m w hn hm h2
  · replace h3 : 0 < a := by omega
    rcases Nat.lt_trichotomy a b with h1 | h1 | h1
    · rcases Nat.lt_trichotomy n m with h2 | h2 | h2
      · exact rates15_llp C a b n m w ha hb hn hm h1 h2 h3
      · subst h2
        exact rates15_lep C a b n w ha hb hn h1 h3
      · exact rates15_lgp C a b n m w ha hb hn hm h1 h2 h3
    · subst h1
      rcases Nat.lt_trichotomy n m with h2 | h2 | h2
      · exact rates15_elp C a n m w ha hn hm h2 h3
      · subst h2
        exact rates15_eep C a n w ha hn h3
      · exact rates15_egp C a n m w ha hn hm h2 h3
    · rcases Nat.lt_trichotomy n m with h2 | h2 | h2
      · exact rates15_glp C a b n m w ha hb hn hm h1 h2 h3
      · subst h2
        exact rates15_gep C a b n w ha hb hn h1 h3
      · exact rates15_ggp C a b n m w ha hb hn hm h1 h2 h3
end Go.Proofs.Ytbgpgdbheajekaa

/-
  The code's own order of rates. Conditions: none.
-/
namespace Go.Proofs.Ytbgpgdbheajekaa
open Go.RowKit
open Fl (K v rung sgn IsNan RndOk rnd sg rq S U)

theorem sc_nan (x : Nat) (w : World) : Calls Try.prog 25 #[.float .f64 x] w (Hands (.bool (decide (IsNan x))) w) := by
  have h := Fl.nan_is x
  generalize decide (IsNan x) = b at *
  go_enter Try.func25, Try.ntmps25
  go_wp2
  go_ret
  exact ⟨rfl, 0, rfl⟩
theorem inf_inf (s t : Bool) : (FloatKind.f64.format.order (Ieee.double.word s 9218868437227405312) (Ieee.double.word t 9218868437227405312) == some Ordering.lt) = (s && !t) := by
  rw [Fl.lt_is, Fl.v_word _ (by omega), Fl.v_word _ (by omega)]
  have hp : 0 < Fl.S 9218868437227405312 := Fl.S_pos.2 (by omega)
  have hs := Fl.nan_word s (r := 9218868437227405312) (by omega)
  have ht := Fl.nan_word t (r := 9218868437227405312) (by omega)
  generalize Fl.S 9218868437227405312 = s0 at *
  cases s <;> cases t
  · rw [decide_eq_false (fun h => by have := h.2.2; simp at this)]; rfl
  · rw [decide_eq_false (fun h => by have := h.2.2; simp at this; omega)]; rfl
  · rw [decide_eq_true ⟨hs, ht, by simp; omega⟩]; rfl
  · rw [decide_eq_false (fun h => by have := h.2.2; simp at this)]; rfl
set_option maxHeartbeats 800000 in
theorem sc_less (a b : Nat) (w : World) : Calls Try.prog 12 #[.float .f64 a, .float .f64 b] w (Hands (.bool (decide (K a < K b))) w) := by
  have HA := Lib.hid (sc_nan a)
  have HB := Lib.hid (sc_nan b)
  by_cases ha : IsNan a
  · rw [less_nan ha]
    rw [decide_eq_true ha] at HA
    clear HB
    go_enter Try.func12, Try.ntmps12
    go_wp2_with fail
    refine (HA.out _).mono ?_
    rintro e w1 ⟨rfl, n1, rfl⟩
    go_wp2_with fail
    refine (HA.out _).mono ?_
    rintro e w1 ⟨rfl, n2, rfl⟩
    go_wp2
    go_ret
    exact ⟨rfl, _, rfl⟩
  rw [decide_eq_false ha] at HA
  by_cases hb : IsNan b
  · rw [less_nan' ha hb]
    rw [decide_eq_true hb] at HB
    go_enter Try.func12, Try.ntmps12
    go_wp2_with fail
    refine (HA.out _).mono ?_
    rintro e w1 ⟨rfl, n1, rfl⟩
    go_wp2_with fail
    refine (HB.out _).mono ?_
    rintro e w1 ⟨rfl, n2, rfl⟩
    go_wp2_with fail
    refine (HA.out _).mono ?_
    rintro e w1 ⟨rfl, n3, rfl⟩
    go_wp2
    go_ret
    exact ⟨rfl, _, rfl⟩
  rw [decide_eq_false hb] at HB
  have za := is_zero a
  have zb := is_zero b
  by_cases h0 : rung a = 0 ∧ rung b = 0
  · rw [K_zeros h0.1 h0.2]
    rw [decide_eq_true h0.1] at za
    rw [decide_eq_true h0.2] at zb
    have q1 := fun W t => run_float_arith (P := Try.prog) W .quo t .f64 4607182418800017408 a _ (one_by_zero h0.1)
    have q2 := fun W t => run_float_arith (P := Try.prog) W .quo t .f64 4607182418800017408 b _ (one_by_zero h0.2)
    have hl := inf_inf (sgn a) (sgn b)
    clear ha hb h0
    generalize (sgn a && !sgn b) = r at *
    generalize Ieee.double.word (sgn a) 9218868437227405312 = x at *
    generalize Ieee.double.word (sgn b) 9218868437227405312 = y at *
    go_enter Try.func12, Try.ntmps12
    go_wp2_with fail
    refine (HA.out _).mono ?_
    rintro e w1 ⟨rfl, n1, rfl⟩
    go_wp2_with fail
    refine (HB.out _).mono ?_
    rintro e w1 ⟨rfl, n2, rfl⟩
    go_wp2
    go_ret
    exact ⟨rfl, _, rfl⟩
  · have hl := less_num ha hb h0
    generalize decide (K a < K b) = r at *
    clear ha hb
    by_cases h1 : rung a = 0
    · rw [decide_eq_true h1] at za
      rw [decide_eq_false (fun h => h0 ⟨h1, h⟩)] at zb
      clear h0
      go_enter Try.func12, Try.ntmps12
      go_wp2_with fail
      refine (HA.out _).mono ?_
      rintro e w1 ⟨rfl, n1, rfl⟩
      go_wp2_with fail
      refine (HB.out _).mono ?_
      rintro e w1 ⟨rfl, n2, rfl⟩
      go_wp2
      go_ret
      exact ⟨rfl, _, rfl⟩
    · rw [decide_eq_false h1] at za
      clear h0
      go_enter Try.func12, Try.ntmps12
      go_wp2_with fail
      refine (HA.out _).mono ?_
      rintro e w1 ⟨rfl, n1, rfl⟩
      go_wp2_with fail
      refine (HB.out _).mono ?_
      rintro e w1 ⟨rfl, n2, rfl⟩
      go_wp2
      go_ret
      exact ⟨rfl, _, rfl⟩
set_option maxHeartbeats 800000 in
theorem sc_compare_all (a b : Nat) : ∃ z : Int, (z < 0 ↔ K a < K b) ∧ (z == 0) = decide (K a = K b) ∧ ∀ w, Calls Try.prog 27 #[.float .f64 a, .float .f64 b] w (Hands (.int .i64 z) w) := by
  have HA := Lib.hid (sc_less a b)
  have HB := Lib.hid (sc_less b a)
  by_cases h1 : K a < K b
  · refine ⟨-1, ⟨fun _ => h1, fun _ => by omega⟩, by rw [decide_eq_false (show ¬ K a = K b by omega)]; rfl, fun w => ?_⟩
    rw [decide_eq_true h1] at HA
    go_enter Try.func27, Try.ntmps27
    go_wp2_with fail
    refine (HA.out _).mono ?_
    rintro e w1 ⟨rfl, n1, rfl⟩
    go_wp2
    go_ret
    exact ⟨rfl, _, rfl⟩
  · rw [decide_eq_false h1] at HA
    by_cases h2 : K b < K a
    · refine ⟨1, ⟨fun h => absurd h (by omega), fun h => absurd h h1⟩, by rw [decide_eq_false (show ¬ K a = K b by omega)]; rfl, fun w => ?_⟩
      rw [decide_eq_true h2] at HB
      go_enter Try.func27, Try.ntmps27
      go_wp2_with fail
      refine (HA.out _).mono ?_
      rintro e w1 ⟨rfl, n1, rfl⟩
      go_wp2_with fail
      refine (HB.out _).mono ?_
      rintro e w1 ⟨rfl, n2, rfl⟩
      go_wp2
      go_ret
      exact ⟨rfl, _, rfl⟩
    · refine ⟨0, ⟨fun h => absurd h (by omega), fun h => absurd h h1⟩, by rw [decide_eq_true (show K a = K b by omega)]; rfl, fun w => ?_⟩
      rw [decide_eq_false h2] at HB
      go_enter Try.func27, Try.ntmps27
      go_wp2_with fail
      refine (HA.out _).mono ?_
      rintro e w1 ⟨rfl, n1, rfl⟩
      go_wp2_with fail
      refine (HB.out _).mono ?_
      rintro e w1 ⟨rfl, n2, rfl⟩
      go_wp2
      go_ret
      exact ⟨rfl, _, rfl⟩
theorem sc_compare (a b : Nat) : ∃ z : Int, (z < 0 ↔ K a < K b) ∧ ∀ w, Calls Try.prog 27 #[.float .f64 a, .float .f64 b] w (Hands (.int .i64 z) w) := by
  obtain ⟨z, h, _, hc⟩ := sc_compare_all a b
  exact ⟨z, h, hc⟩
theorem sc_same (a b : Nat) (w : World) : Calls Try.prog 14 #[.float .f64 a, .float .f64 b] w (Hands (.bool (decide (K a = K b))) w) := by
  obtain ⟨z, _, hz, hc⟩ := sc_compare_all a b
  have HC := Lib.hid hc
  have h1 : (z == 0) = decide (K a = K b) := hz
  have h2 : decide (z = 0) = decide (K a = K b) := by rw [← h1]; rfl
  generalize decide (K a = K b) = r at *
  clear hz hc
  go_enter Try.func14, Try.ntmps14
  go_wp2_with fail
  refine (HC.out _).mono ?_
  rintro e w1 ⟨rfl, n1, rfl⟩
  go_wp2
  go_ret
  exact ⟨rfl, _, rfl⟩
theorem sc_clamp (x lo hi : Nat) (w : World) : Calls Try.prog 18 #[.float .f64 x, .float .f64 lo, .float .f64 hi] w (Hands (.float .f64 (clamp x lo hi)) w) := by
  have HA := Lib.hid (sc_nan x)
  have HB := Lib.hid (sc_less x lo)
  have HC := Lib.hid (sc_less hi x)
  unfold clamp
  by_cases h1 : IsNan x
  · rw [if_pos (.inl h1)]
    rw [decide_eq_true h1] at HA
    clear HB HC
    go_enter Try.func18, Try.ntmps18
    go_wp2_with fail
    refine (HA.out _).mono ?_
    rintro e w1 ⟨rfl, n1, rfl⟩
    go_wp2
    go_ret
    exact ⟨rfl, _, rfl⟩
  · rw [decide_eq_false h1] at HA
    by_cases h2 : K x < K lo
    · rw [if_pos (.inr h2)]
      rw [decide_eq_true h2] at HB
      clear HC
      go_enter Try.func18, Try.ntmps18
      go_wp2_with fail
      refine (HA.out _).mono ?_
      rintro e w1 ⟨rfl, n1, rfl⟩
      go_wp2_with fail
      refine (HB.out _).mono ?_
      rintro e w1 ⟨rfl, n2, rfl⟩
      go_wp2
      go_ret
      exact ⟨rfl, _, rfl⟩
    · rw [if_neg (by rintro (h | h); exact h1 h; exact h2 h)]
      rw [decide_eq_false h2] at HB
      by_cases h3 : K hi < K x
      · rw [if_pos h3]
        rw [decide_eq_true h3] at HC
        go_enter Try.func18, Try.ntmps18
        go_wp2_with fail
        refine (HA.out _).mono ?_
        rintro e w1 ⟨rfl, n1, rfl⟩
        go_wp2_with fail
        refine (HB.out _).mono ?_
        rintro e w1 ⟨rfl, n2, rfl⟩
        go_wp2_with fail
        refine (HC.out _).mono ?_
        rintro e w1 ⟨rfl, n3, rfl⟩
        go_wp2
        go_ret
        exact ⟨rfl, _, rfl⟩
      · rw [if_neg h3]
        rw [decide_eq_false h3] at HC
        go_enter Try.func18, Try.ntmps18
        go_wp2_with fail
        refine (HA.out _).mono ?_
        rintro e w1 ⟨rfl, n1, rfl⟩
        go_wp2_with fail
        refine (HB.out _).mono ?_
        rintro e w1 ⟨rfl, n2, rfl⟩
        go_wp2_with fail
        refine (HC.out _).mono ?_
        rintro e w1 ⟨rfl, n3, rfl⟩
        go_wp2
        go_ret
        exact ⟨rfl, _, rfl⟩
end Go.Proofs.Ytbgpgdbheajekaa
