/-
  Part 3 of the texts that the seat's proofs stand on; each part of it begins with its own sentence and conditions. Conditions: those that each theorem names.
-/
import Derived.Test.YtbgpgdbheajekaaRatesPack2
import Derived.BigRegion
import Derived.BigQuiet

/-
  The code's own Rate and Round. Conditions: none.
-/
namespace Go.Proofs.Ytbgpgdbheajekaa
open Go.RowKit
open Fl (K v rung sgn IsNan RndOk rnd sg rq S U)

theorem sc_rate (fee : Nat) (n : Int) (w : World) : Calls Try.prog 16 #[.int .u64 (fee : Int), .int .i64 n] w (RateR fee n w) := by
  have c1 := fun W n => run_convert_int_float (P := Try.prog) W 23 22 .u64 .f64 n (by kernel_rfl) Try.underlying22
  have c2 := fun W n => run_convert_int_float (P := Try.prog) W 3 22 .i64 .f64 n (by kernel_rfl) Try.underlying22
  obtain ⟨f, m, h1, h2⟩ := quo_any (floatOfInt .f64 (fee : Int)) (floatOfInt .f64 n)
  have h1' := h1 Try.prog
  have H2 := Lib.hid (show ∀ w, f w < 18446744073709551616 ∧ Fl.IsRate fee n (f w) from h2)
  clear h1 h2
  go_enter Try.func16, Try.ntmps16
  go_wp2
  go_ret
  exact ⟨_, m, rfl, (H2.out _).1, (H2.out _).2, rfl⟩
theorem le_is {x y : Nat} (hx : ¬ IsNan x) (hy : ¬ IsNan y) : (FloatKind.f64.format.order x y == some Ordering.lt || FloatKind.f64.format.order x y == some Ordering.eq) = decide (v x ≤ v y) := by
  rw [Fl.lt_is, Fl.eq_is]
  rcases Int.lt_trichotomy (v x) (v y) with h | h | h
  · rw [decide_eq_true ⟨hx, hy, h⟩, decide_eq_true (show v x ≤ v y by omega)]; rfl
  · rw [decide_eq_true (show ¬ IsNan x ∧ ¬ IsNan y ∧ v x = v y from ⟨hx, hy, h⟩), decide_eq_true (show v x ≤ v y by omega), Bool.or_true]
  · rw [decide_eq_false (fun hh => by have := hh.2.2; omega), decide_eq_false (fun hh => by have := hh.2.2; omega), decide_eq_false (show ¬ v x ≤ v y by omega)]; rfl
theorem le_nan {x y : Nat} (h : IsNan x ∨ IsNan y) : (FloatKind.f64.format.order x y == some Ordering.lt || FloatKind.f64.format.order x y == some Ordering.eq) = false := by
  rw [Fl.lt_is, Fl.eq_is, decide_eq_false (fun hh => by rcases h with h | h; exact hh.1 h; exact hh.2.1 h), decide_eq_false (fun hh => by rcases h with h | h; exact hh.1 h; exact hh.2.1 h)]
  rfl
set_option maxHeartbeats 1600000 in
theorem sc_round (x : Nat) (w : World) : Calls Try.prog 10 #[.float .f64 x] w (Hands (RoundV x) w) := by
  have c1 := fun W n => run_convert_int_float (P := Try.prog) W 3 22 .i64 .f64 n (by kernel_rfl) Try.underlying22
  unfold RoundV
  by_cases hk : RndOk x
  · rw [decide_eq_true hk, Fl.rnd_ok hk]
    have hn := Fl.nan_fin hk.fin
    have g1 := (le_is n53.2 hn).trans (decide_eq_true (Int.not_lt.1 (ok_lt.1 hk).2))
    have g2 := (le_is hn c53.2.2).trans (decide_eq_true (Int.not_lt.1 (ok_lt.1 hk).1))
    obtain ⟨q, t, d, hq, ht, hq1, hq2, ht1, hd, hd1, hd2⟩ := trunc_left hk
    have c2 := fun W => run_convert_float_int (P := Try.prog) W 22 3 .f64 .i64 x _ (by kernel_rfl) Try.underlying3 ht1
    have hs := fun W t => run_float_arith (P := Try.prog) W .sub t .f64 _ _ _ hd
    have hr : rq (S (rung x)) = if 2 * t < U ∨ (2 * t = U ∧ q % 2 = 0) then q else q + 1 := by rw [ht, hq]; rfl
    have ch := chalf
    have nh := nhalf
    have f1 := Fl.gt_is d 4602678819172646912
    have f2 := Fl.eq_is d 4602678819172646912
    have f3 := Fl.lt_is d 13826050856027422720
    have f4 := Fl.eq_is d 13826050856027422720
    rw [hd2] at f1 f2 f3 f4
    have hU := Fl.U_pos
    unfold Fl.sg at *
    clear hq ht ht1 hd hk
    have hsp : (2 * t < U ∧ q % 2 = 0) ∨ (2 * t < U ∧ q % 2 = 1) ∨ (2 * t = U ∧ q % 2 = 0) ∨ (2 * t = U ∧ q % 2 = 1) ∨ (U < 2 * t ∧ q % 2 = 0) ∨ (U < 2 * t ∧ q % 2 = 1) := by omega
    generalize sgn x = s at *
    cases s <;> simp only [Bool.false_eq_true, if_false, if_true] at *
    · rcases hsp with ⟨p1, p2⟩ | ⟨p1, p2⟩ | ⟨p1, p2⟩ | ⟨p1, p2⟩ | ⟨p1, p2⟩ | ⟨p1, p2⟩
      · have e1 : decide (¬ IsNan d ∧ ¬ IsNan 4602678819172646912 ∧ v 4602678819172646912 < (t : Int)) = false := decide_eq_false (fun h => by have := h.2.2; omega)
        rw [e1] at f1
        clear e1
        have e2 : decide (¬ IsNan d ∧ ¬ IsNan 4602678819172646912 ∧ (t : Int) = v 4602678819172646912) = false := decide_eq_false (fun h => by have := h.2.2; omega)
        rw [e2] at f2
        clear e2
        have e3 : decide (¬ IsNan d ∧ ¬ IsNan 13826050856027422720 ∧ (t : Int) < v 13826050856027422720) = false := decide_eq_false (fun h => by have := h.2.2; omega)
        rw [e3] at f3
        clear e3
        have e4 : decide (¬ IsNan d ∧ ¬ IsNan 13826050856027422720 ∧ (t : Int) = v 13826050856027422720) = false := decide_eq_false (fun h => by have := h.2.2; omega)
        rw [e4] at f4
        clear e4
        rw [hr, if_pos (by omega)]
        have m1 : (Int.tmod ((q : Int)) 2 == 0) = true := by
          rw [(tmod_two q).1, p2]; rfl
        have m2 : (Int.tmod ((q : Int)) 2 != 0) = false := by rw [bne, m1]; rfl
        have m3 : ((q : Int) % 2 == 0) = true := by
          have h : (q : Int) % 2 = 0 := by omega
          rw [h]; rfl
        have m4 : ((q : Int) % 2 != 0) = false := by rw [bne, m3]; rfl
        clear hr hd1 hd2 ch nh p2
        have hb : q ≤ 9007199254740992 := hq1
        clear hq1 hq2 p1 hU
        go_enter Try.func10, Try.ntmps10
        go_wp2
        go_ret2
        exact ⟨rfl, 0, rfl⟩
      · have e1 : decide (¬ IsNan d ∧ ¬ IsNan 4602678819172646912 ∧ v 4602678819172646912 < (t : Int)) = false := decide_eq_false (fun h => by have := h.2.2; omega)
        rw [e1] at f1
        clear e1
        have e2 : decide (¬ IsNan d ∧ ¬ IsNan 4602678819172646912 ∧ (t : Int) = v 4602678819172646912) = false := decide_eq_false (fun h => by have := h.2.2; omega)
        rw [e2] at f2
        clear e2
        have e3 : decide (¬ IsNan d ∧ ¬ IsNan 13826050856027422720 ∧ (t : Int) < v 13826050856027422720) = false := decide_eq_false (fun h => by have := h.2.2; omega)
        rw [e3] at f3
        clear e3
        have e4 : decide (¬ IsNan d ∧ ¬ IsNan 13826050856027422720 ∧ (t : Int) = v 13826050856027422720) = false := decide_eq_false (fun h => by have := h.2.2; omega)
        rw [e4] at f4
        clear e4
        rw [hr, if_pos (by omega)]
        have m1 : (Int.tmod ((q : Int)) 2 == 0) = false := by
          rw [(tmod_two q).1, p2]; rfl
        have m2 : (Int.tmod ((q : Int)) 2 != 0) = true := by rw [bne, m1]; rfl
        have m3 : ((q : Int) % 2 == 0) = false := by
          have h : (q : Int) % 2 = 1 := by omega
          rw [h]; rfl
        have m4 : ((q : Int) % 2 != 0) = true := by rw [bne, m3]; rfl
        clear hr hd1 hd2 ch nh p2
        have hb : q ≤ 9007199254740992 := hq1
        clear hq1 hq2 p1 hU
        go_enter Try.func10, Try.ntmps10
        go_wp2
        go_ret2
        exact ⟨rfl, 0, rfl⟩
      · have e1 : decide (¬ IsNan d ∧ ¬ IsNan 4602678819172646912 ∧ v 4602678819172646912 < (t : Int)) = false := decide_eq_false (fun h => by have := h.2.2; omega)
        rw [e1] at f1
        clear e1
        have e2 : decide (¬ IsNan d ∧ ¬ IsNan 4602678819172646912 ∧ (t : Int) = v 4602678819172646912) = true := decide_eq_true ⟨hd1, ch.2, by omega⟩
        rw [e2] at f2
        clear e2
        have e3 : decide (¬ IsNan d ∧ ¬ IsNan 13826050856027422720 ∧ (t : Int) < v 13826050856027422720) = false := decide_eq_false (fun h => by have := h.2.2; omega)
        rw [e3] at f3
        clear e3
        have e4 : decide (¬ IsNan d ∧ ¬ IsNan 13826050856027422720 ∧ (t : Int) = v 13826050856027422720) = false := decide_eq_false (fun h => by have := h.2.2; omega)
        rw [e4] at f4
        clear e4
        rw [hr, if_pos (by omega)]
        have m1 : (Int.tmod ((q : Int)) 2 == 0) = true := by
          rw [(tmod_two q).1, p2]; rfl
        have m2 : (Int.tmod ((q : Int)) 2 != 0) = false := by rw [bne, m1]; rfl
        have m3 : ((q : Int) % 2 == 0) = true := by
          have h : (q : Int) % 2 = 0 := by omega
          rw [h]; rfl
        have m4 : ((q : Int) % 2 != 0) = false := by rw [bne, m3]; rfl
        clear hr hd1 hd2 ch nh p2
        have hb : q ≤ 9007199254740992 := hq1
        clear hq1 hq2 p1 hU
        go_enter Try.func10, Try.ntmps10
        go_wp2
        go_ret2
        exact ⟨rfl, 0, rfl⟩
      · have e1 : decide (¬ IsNan d ∧ ¬ IsNan 4602678819172646912 ∧ v 4602678819172646912 < (t : Int)) = false := decide_eq_false (fun h => by have := h.2.2; omega)
        rw [e1] at f1
        clear e1
        have e2 : decide (¬ IsNan d ∧ ¬ IsNan 4602678819172646912 ∧ (t : Int) = v 4602678819172646912) = true := decide_eq_true ⟨hd1, ch.2, by omega⟩
        rw [e2] at f2
        clear e2
        have e3 : decide (¬ IsNan d ∧ ¬ IsNan 13826050856027422720 ∧ (t : Int) < v 13826050856027422720) = false := decide_eq_false (fun h => by have := h.2.2; omega)
        rw [e3] at f3
        clear e3
        have e4 : decide (¬ IsNan d ∧ ¬ IsNan 13826050856027422720 ∧ (t : Int) = v 13826050856027422720) = false := decide_eq_false (fun h => by have := h.2.2; omega)
        rw [e4] at f4
        clear e4
        rw [hr, if_neg (by omega)]
        have m1 : (Int.tmod ((q : Int)) 2 == 0) = false := by
          rw [(tmod_two q).1, p2]; rfl
        have m2 : (Int.tmod ((q : Int)) 2 != 0) = true := by rw [bne, m1]; rfl
        have m3 : ((q : Int) % 2 == 0) = false := by
          have h : (q : Int) % 2 = 1 := by omega
          rw [h]; rfl
        have m4 : ((q : Int) % 2 != 0) = true := by rw [bne, m3]; rfl
        clear hr hd1 hd2 ch nh p2
        have hb : q ≤ 9007199254740992 := hq1
        have hb2 : q < 9007199254740992 := hq2 (by omega)
        clear hq1 hq2 p1 hU
        go_enter Try.func10, Try.ntmps10
        go_wp2
        go_ret2
        exact ⟨by congr 4, 0, rfl⟩
      · have e1 : decide (¬ IsNan d ∧ ¬ IsNan 4602678819172646912 ∧ v 4602678819172646912 < (t : Int)) = true := decide_eq_true ⟨hd1, ch.2, by omega⟩
        rw [e1] at f1
        clear e1
        have e2 : decide (¬ IsNan d ∧ ¬ IsNan 4602678819172646912 ∧ (t : Int) = v 4602678819172646912) = false := decide_eq_false (fun h => by have := h.2.2; omega)
        rw [e2] at f2
        clear e2
        have e3 : decide (¬ IsNan d ∧ ¬ IsNan 13826050856027422720 ∧ (t : Int) < v 13826050856027422720) = false := decide_eq_false (fun h => by have := h.2.2; omega)
        rw [e3] at f3
        clear e3
        have e4 : decide (¬ IsNan d ∧ ¬ IsNan 13826050856027422720 ∧ (t : Int) = v 13826050856027422720) = false := decide_eq_false (fun h => by have := h.2.2; omega)
        rw [e4] at f4
        clear e4
        rw [hr, if_neg (by omega)]
        have m1 : (Int.tmod ((q : Int)) 2 == 0) = true := by
          rw [(tmod_two q).1, p2]; rfl
        have m2 : (Int.tmod ((q : Int)) 2 != 0) = false := by rw [bne, m1]; rfl
        have m3 : ((q : Int) % 2 == 0) = true := by
          have h : (q : Int) % 2 = 0 := by omega
          rw [h]; rfl
        have m4 : ((q : Int) % 2 != 0) = false := by rw [bne, m3]; rfl
        clear hr hd1 hd2 ch nh p2
        have hb : q ≤ 9007199254740992 := hq1
        have hb2 : q < 9007199254740992 := hq2 (by omega)
        clear hq1 hq2 p1 hU
        go_enter Try.func10, Try.ntmps10
        go_wp2
        go_ret2
        exact ⟨by congr 4, 0, rfl⟩
      · have e1 : decide (¬ IsNan d ∧ ¬ IsNan 4602678819172646912 ∧ v 4602678819172646912 < (t : Int)) = true := decide_eq_true ⟨hd1, ch.2, by omega⟩
        rw [e1] at f1
        clear e1
        have e2 : decide (¬ IsNan d ∧ ¬ IsNan 4602678819172646912 ∧ (t : Int) = v 4602678819172646912) = false := decide_eq_false (fun h => by have := h.2.2; omega)
        rw [e2] at f2
        clear e2
        have e3 : decide (¬ IsNan d ∧ ¬ IsNan 13826050856027422720 ∧ (t : Int) < v 13826050856027422720) = false := decide_eq_false (fun h => by have := h.2.2; omega)
        rw [e3] at f3
        clear e3
        have e4 : decide (¬ IsNan d ∧ ¬ IsNan 13826050856027422720 ∧ (t : Int) = v 13826050856027422720) = false := decide_eq_false (fun h => by have := h.2.2; omega)
        rw [e4] at f4
        clear e4
        rw [hr, if_neg (by omega)]
        have m1 : (Int.tmod ((q : Int)) 2 == 0) = false := by
          rw [(tmod_two q).1, p2]; rfl
        have m2 : (Int.tmod ((q : Int)) 2 != 0) = true := by rw [bne, m1]; rfl
        have m3 : ((q : Int) % 2 == 0) = false := by
          have h : (q : Int) % 2 = 1 := by omega
          rw [h]; rfl
        have m4 : ((q : Int) % 2 != 0) = true := by rw [bne, m3]; rfl
        clear hr hd1 hd2 ch nh p2
        have hb : q ≤ 9007199254740992 := hq1
        have hb2 : q < 9007199254740992 := hq2 (by omega)
        clear hq1 hq2 p1 hU
        go_enter Try.func10, Try.ntmps10
        go_wp2
        go_ret2
        exact ⟨by congr 4, 0, rfl⟩
    · rcases hsp with ⟨p1, p2⟩ | ⟨p1, p2⟩ | ⟨p1, p2⟩ | ⟨p1, p2⟩ | ⟨p1, p2⟩ | ⟨p1, p2⟩
      · have e1 : decide (¬ IsNan d ∧ ¬ IsNan 4602678819172646912 ∧ v 4602678819172646912 < -(t : Int)) = false := decide_eq_false (fun h => by have := h.2.2; omega)
        rw [e1] at f1
        clear e1
        have e2 : decide (¬ IsNan d ∧ ¬ IsNan 4602678819172646912 ∧ -(t : Int) = v 4602678819172646912) = false := decide_eq_false (fun h => by have := h.2.2; omega)
        rw [e2] at f2
        clear e2
        have e3 : decide (¬ IsNan d ∧ ¬ IsNan 13826050856027422720 ∧ -(t : Int) < v 13826050856027422720) = false := decide_eq_false (fun h => by have := h.2.2; omega)
        rw [e3] at f3
        clear e3
        have e4 : decide (¬ IsNan d ∧ ¬ IsNan 13826050856027422720 ∧ -(t : Int) = v 13826050856027422720) = false := decide_eq_false (fun h => by have := h.2.2; omega)
        rw [e4] at f4
        clear e4
        rw [hr, if_pos (by omega)]
        have m1 : (Int.tmod (-(q : Int)) 2 == 0) = true := by
          rw [(tmod_two q).2, p2]; rfl
        have m2 : (Int.tmod (-(q : Int)) 2 != 0) = false := by rw [bne, m1]; rfl
        have m3 : ((q : Int) % 2 == 0) = true := by
          have h : (q : Int) % 2 = 0 := by omega
          rw [h]; rfl
        have m4 : ((q : Int) % 2 != 0) = false := by rw [bne, m3]; rfl
        clear hr hd1 hd2 ch nh p2
        have hb : q ≤ 9007199254740992 := hq1
        clear hq1 hq2 p1 hU
        go_enter Try.func10, Try.ntmps10
        go_wp2
        go_ret2
        exact ⟨rfl, 0, rfl⟩
      · have e1 : decide (¬ IsNan d ∧ ¬ IsNan 4602678819172646912 ∧ v 4602678819172646912 < -(t : Int)) = false := decide_eq_false (fun h => by have := h.2.2; omega)
        rw [e1] at f1
        clear e1
        have e2 : decide (¬ IsNan d ∧ ¬ IsNan 4602678819172646912 ∧ -(t : Int) = v 4602678819172646912) = false := decide_eq_false (fun h => by have := h.2.2; omega)
        rw [e2] at f2
        clear e2
        have e3 : decide (¬ IsNan d ∧ ¬ IsNan 13826050856027422720 ∧ -(t : Int) < v 13826050856027422720) = false := decide_eq_false (fun h => by have := h.2.2; omega)
        rw [e3] at f3
        clear e3
        have e4 : decide (¬ IsNan d ∧ ¬ IsNan 13826050856027422720 ∧ -(t : Int) = v 13826050856027422720) = false := decide_eq_false (fun h => by have := h.2.2; omega)
        rw [e4] at f4
        clear e4
        rw [hr, if_pos (by omega)]
        have m1 : (Int.tmod (-(q : Int)) 2 == 0) = false := by
          rw [(tmod_two q).2, p2]; rfl
        have m2 : (Int.tmod (-(q : Int)) 2 != 0) = true := by rw [bne, m1]; rfl
        have m3 : ((q : Int) % 2 == 0) = false := by
          have h : (q : Int) % 2 = 1 := by omega
          rw [h]; rfl
        have m4 : ((q : Int) % 2 != 0) = true := by rw [bne, m3]; rfl
        clear hr hd1 hd2 ch nh p2
        have hb : q ≤ 9007199254740992 := hq1
        clear hq1 hq2 p1 hU
        go_enter Try.func10, Try.ntmps10
        go_wp2
        go_ret2
        exact ⟨rfl, 0, rfl⟩
      · have e1 : decide (¬ IsNan d ∧ ¬ IsNan 4602678819172646912 ∧ v 4602678819172646912 < -(t : Int)) = false := decide_eq_false (fun h => by have := h.2.2; omega)
        rw [e1] at f1
        clear e1
        have e2 : decide (¬ IsNan d ∧ ¬ IsNan 4602678819172646912 ∧ -(t : Int) = v 4602678819172646912) = false := decide_eq_false (fun h => by have := h.2.2; omega)
        rw [e2] at f2
        clear e2
        have e3 : decide (¬ IsNan d ∧ ¬ IsNan 13826050856027422720 ∧ -(t : Int) < v 13826050856027422720) = false := decide_eq_false (fun h => by have := h.2.2; omega)
        rw [e3] at f3
        clear e3
        have e4 : decide (¬ IsNan d ∧ ¬ IsNan 13826050856027422720 ∧ -(t : Int) = v 13826050856027422720) = true := decide_eq_true ⟨hd1, nh.2, by omega⟩
        rw [e4] at f4
        clear e4
        rw [hr, if_pos (by omega)]
        have m1 : (Int.tmod (-(q : Int)) 2 == 0) = true := by
          rw [(tmod_two q).2, p2]; rfl
        have m2 : (Int.tmod (-(q : Int)) 2 != 0) = false := by rw [bne, m1]; rfl
        have m3 : ((q : Int) % 2 == 0) = true := by
          have h : (q : Int) % 2 = 0 := by omega
          rw [h]; rfl
        have m4 : ((q : Int) % 2 != 0) = false := by rw [bne, m3]; rfl
        clear hr hd1 hd2 ch nh p2
        have hb : q ≤ 9007199254740992 := hq1
        clear hq1 hq2 p1 hU
        go_enter Try.func10, Try.ntmps10
        go_wp2
        go_ret2
        exact ⟨rfl, 0, rfl⟩
      · have e1 : decide (¬ IsNan d ∧ ¬ IsNan 4602678819172646912 ∧ v 4602678819172646912 < -(t : Int)) = false := decide_eq_false (fun h => by have := h.2.2; omega)
        rw [e1] at f1
        clear e1
        have e2 : decide (¬ IsNan d ∧ ¬ IsNan 4602678819172646912 ∧ -(t : Int) = v 4602678819172646912) = false := decide_eq_false (fun h => by have := h.2.2; omega)
        rw [e2] at f2
        clear e2
        have e3 : decide (¬ IsNan d ∧ ¬ IsNan 13826050856027422720 ∧ -(t : Int) < v 13826050856027422720) = false := decide_eq_false (fun h => by have := h.2.2; omega)
        rw [e3] at f3
        clear e3
        have e4 : decide (¬ IsNan d ∧ ¬ IsNan 13826050856027422720 ∧ -(t : Int) = v 13826050856027422720) = true := decide_eq_true ⟨hd1, nh.2, by omega⟩
        rw [e4] at f4
        clear e4
        rw [hr, if_neg (by omega)]
        rw [show -((q + 1 : Nat) : Int) = -(q : Int) - 1 by omega]
        have m1 : (Int.tmod (-(q : Int)) 2 == 0) = false := by
          rw [(tmod_two q).2, p2]; rfl
        have m2 : (Int.tmod (-(q : Int)) 2 != 0) = true := by rw [bne, m1]; rfl
        have m3 : ((q : Int) % 2 == 0) = false := by
          have h : (q : Int) % 2 = 1 := by omega
          rw [h]; rfl
        have m4 : ((q : Int) % 2 != 0) = true := by rw [bne, m3]; rfl
        clear hr hd1 hd2 ch nh p2
        have hb : q ≤ 9007199254740992 := hq1
        have hb2 : q < 9007199254740992 := hq2 (by omega)
        clear hq1 hq2 p1 hU
        go_enter Try.func10, Try.ntmps10
        go_wp2
        go_ret2
        exact ⟨rfl, 0, rfl⟩
      · have e1 : decide (¬ IsNan d ∧ ¬ IsNan 4602678819172646912 ∧ v 4602678819172646912 < -(t : Int)) = false := decide_eq_false (fun h => by have := h.2.2; omega)
        rw [e1] at f1
        clear e1
        have e2 : decide (¬ IsNan d ∧ ¬ IsNan 4602678819172646912 ∧ -(t : Int) = v 4602678819172646912) = false := decide_eq_false (fun h => by have := h.2.2; omega)
        rw [e2] at f2
        clear e2
        have e3 : decide (¬ IsNan d ∧ ¬ IsNan 13826050856027422720 ∧ -(t : Int) < v 13826050856027422720) = true := decide_eq_true ⟨hd1, nh.2, by omega⟩
        rw [e3] at f3
        clear e3
        have e4 : decide (¬ IsNan d ∧ ¬ IsNan 13826050856027422720 ∧ -(t : Int) = v 13826050856027422720) = false := decide_eq_false (fun h => by have := h.2.2; omega)
        rw [e4] at f4
        clear e4
        rw [hr, if_neg (by omega)]
        rw [show -((q + 1 : Nat) : Int) = -(q : Int) - 1 by omega]
        have m1 : (Int.tmod (-(q : Int)) 2 == 0) = true := by
          rw [(tmod_two q).2, p2]; rfl
        have m2 : (Int.tmod (-(q : Int)) 2 != 0) = false := by rw [bne, m1]; rfl
        have m3 : ((q : Int) % 2 == 0) = true := by
          have h : (q : Int) % 2 = 0 := by omega
          rw [h]; rfl
        have m4 : ((q : Int) % 2 != 0) = false := by rw [bne, m3]; rfl
        clear hr hd1 hd2 ch nh p2
        have hb : q ≤ 9007199254740992 := hq1
        have hb2 : q < 9007199254740992 := hq2 (by omega)
        clear hq1 hq2 p1 hU
        go_enter Try.func10, Try.ntmps10
        go_wp2
        go_ret2
        exact ⟨rfl, 0, rfl⟩
      · have e1 : decide (¬ IsNan d ∧ ¬ IsNan 4602678819172646912 ∧ v 4602678819172646912 < -(t : Int)) = false := decide_eq_false (fun h => by have := h.2.2; omega)
        rw [e1] at f1
        clear e1
        have e2 : decide (¬ IsNan d ∧ ¬ IsNan 4602678819172646912 ∧ -(t : Int) = v 4602678819172646912) = false := decide_eq_false (fun h => by have := h.2.2; omega)
        rw [e2] at f2
        clear e2
        have e3 : decide (¬ IsNan d ∧ ¬ IsNan 13826050856027422720 ∧ -(t : Int) < v 13826050856027422720) = true := decide_eq_true ⟨hd1, nh.2, by omega⟩
        rw [e3] at f3
        clear e3
        have e4 : decide (¬ IsNan d ∧ ¬ IsNan 13826050856027422720 ∧ -(t : Int) = v 13826050856027422720) = false := decide_eq_false (fun h => by have := h.2.2; omega)
        rw [e4] at f4
        clear e4
        rw [hr, if_neg (by omega)]
        rw [show -((q + 1 : Nat) : Int) = -(q : Int) - 1 by omega]
        have m1 : (Int.tmod (-(q : Int)) 2 == 0) = false := by
          rw [(tmod_two q).2, p2]; rfl
        have m2 : (Int.tmod (-(q : Int)) 2 != 0) = true := by rw [bne, m1]; rfl
        have m3 : ((q : Int) % 2 == 0) = false := by
          have h : (q : Int) % 2 = 1 := by omega
          rw [h]; rfl
        have m4 : ((q : Int) % 2 != 0) = true := by rw [bne, m3]; rfl
        clear hr hd1 hd2 ch nh p2
        have hb : q ≤ 9007199254740992 := hq1
        have hb2 : q < 9007199254740992 := hq2 (by omega)
        clear hq1 hq2 p1 hU
        go_enter Try.func10, Try.ntmps10
        go_wp2
        go_ret2
        exact ⟨rfl, 0, rfl⟩
  · rw [decide_eq_false hk, Fl.rnd_no hk]
    have ho := fun h => hk (ok_lt.2 h)
    by_cases hn : IsNan x ∨ v x < v 14069245235905429504
    · have g1 : (FloatKind.f64.format.order 14069245235905429504 x == some Ordering.lt || FloatKind.f64.format.order 14069245235905429504 x == some Ordering.eq) = false := (by
        by_cases h : IsNan x
        · exact le_nan (.inr h)
        · rw [le_is n53.2 h]
          exact decide_eq_false (by have := hn.resolve_left h; omega))
      clear ho hn
      go_enter Try.func10, Try.ntmps10
      go_wp2
      go_ret2
      exact ⟨rfl, 0, rfl⟩
    · have hx : ¬ IsNan x := fun h => hn (.inl h)
      have hv : ¬ v x < v 14069245235905429504 := fun h => hn (.inr h)
      have g1 := (le_is n53.2 hx).trans (decide_eq_true (Int.not_lt.1 hv))
      have g2 := (le_is hx c53.2.2).trans (decide_eq_false (fun h => ho ⟨Int.not_lt.2 h, hv⟩))
      clear ho hn hv
      go_enter Try.func10, Try.ntmps10
      go_wp2
      go_ret2
      exact ⟨rfl, 0, rfl⟩
end Go.Proofs.Ytbgpgdbheajekaa

/-
  Sorting in place, on plain lists: parts that are in order, parts whose elements change places; a swap; what a merge in place needs. Conditions: none; nothing of the program is named here.
-/
namespace Fl
open Pol (co)

/-- In order from a up to b. -/
def SIn (a b : Nat) (d : List Nat) : Prop := ∀ i j, a ≤ i → i ≤ j → j < b → K (co d i) ≤ K (co d j)
/-- The elements from a up to b change places among themselves. -/
structure PIn (a b : Nat) (d d' : List Nat) : Prop where
  len : d'.length = d.length
  out : ∀ i, i < a ∨ b ≤ i → co d' i = co d i
  perm : d'.Perm d
  inn : ∀ i, a ≤ i → i < b → ∃ j, a ≤ j ∧ j < b ∧ co d' i = co d j
theorem PIn.refl (a b : Nat) (d : List Nat) : PIn a b d d := ⟨rfl, fun _ _ => rfl, List.Perm.refl _, fun i h1 h2 => ⟨i, h1, h2, rfl⟩⟩
theorem PIn.trans {a b : Nat} {d d' d'' : List Nat} (h : PIn a b d d') (k : PIn a b d' d'') : PIn a b d d'' :=
  ⟨k.len.trans h.len, fun i hi => (k.out i hi).trans (h.out i hi), k.perm.trans h.perm, fun i h1 h2 => by
    obtain ⟨j, j1, j2, e⟩ := k.inn i h1 h2
    obtain ⟨l, l1, l2, e'⟩ := h.inn j j1 j2
    exact ⟨l, l1, l2, e.trans e'⟩⟩
theorem PIn.mono {a b a' b' : Nat} {d d' : List Nat} (h : PIn a b d d') (ha : a' ≤ a) (hb : b ≤ b') : PIn a' b' d d' :=
  ⟨h.len, fun i hi => h.out i (by omega), h.perm, fun i h1 h2 => by
    by_cases hi : a ≤ i ∧ i < b
    · obtain ⟨j, j1, j2, e⟩ := h.inn i hi.1 hi.2
      exact ⟨j, by omega, by omega, e⟩
    · exact ⟨i, h1, h2, h.out i (by omega)⟩⟩
theorem SIn.keep {a b x y : Nat} {d d' : List Nat} (h : SIn x y d) (hp : PIn a b d d') (hd : y ≤ a ∨ b ≤ x) : SIn x y d' := fun i j h1 h2 h3 => by
  rw [hp.out i (by omega), hp.out j (by omega)]
  exact h i j h1 h2 h3
theorem SIn.sub {a b x y : Nat} {d : List Nat} (h : SIn a b d) (h1 : a ≤ x) (h2 : y ≤ b) : SIn x y d := fun i j k1 k2 k3 => h i j (by omega) k2 (by omega)
theorem SIn.one {a b : Nat} {d : List Nat} (h : b ≤ a + 1) : SIn a b d := fun i j k1 k2 k3 => by
  obtain rfl : i = j := by omega
  exact Int.le_refl _
theorem SIn.join {a m b : Nat} {d : List Nat} (h : SIn a m d) (k : SIn m b d) (hx : ∀ i j, a ≤ i → i < m → m ≤ j → j < b → K (co d i) ≤ K (co d j)) : SIn a b d := fun i j h1 h2 h3 => by
  by_cases c1 : j < m
  · exact h i j h1 h2 c1
  · by_cases c2 : m ≤ i
    · exact k i j c2 h2 h3
    · exact hx i j h1 (by omega) (by omega) h3
/-- Two elements change places. -/
def sw (d : List Nat) (i j : Nat) : List Nat := (d.set i (co d j)).set j (co d i)
theorem sw_len (d : List Nat) (i j : Nat) : (sw d i j).length = d.length := by unfold sw; simp
theorem sw_co {d : List Nat} {i j : Nat} (hi : i < d.length) (hj : j < d.length) (k : Nat) : co (sw d i j) k = if k = j then co d i else if k = i then co d j else co d k := by
  unfold sw co
  by_cases h1 : k = j
  · subst h1
    rw [List.getElem?_set_self (by simpa using hj), if_pos rfl]
    rfl
  · rw [List.getElem?_set_ne (fun h => h1 h.symm), if_neg h1]
    by_cases h2 : k = i
    · subst h2
      rw [List.getElem?_set_self hi, if_pos rfl]
      rfl
    · rw [List.getElem?_set_ne (fun h => h2 h.symm), if_neg h2]
theorem sw_perm {d : List Nat} {i j : Nat} (hi : i < d.length) (hj : j < d.length) : (sw d i j).Perm d := by
  have h := Array.swap_perm (xs := d.toArray) (i := i) (j := j) (by simpa using hi) (by simpa using hj)
  rw [Array.perm_iff_toList_perm] at h
  have e : (d.toArray.swap i j (by simpa using hi) (by simpa using hj)).toList = sw d i j := by
    unfold sw co
    simp [Array.swap, List.getElem?_eq_getElem hi, List.getElem?_eq_getElem hj]
  rwa [e] at h
theorem PIn.swap {a b i j : Nat} {d : List Nat} (hi : a ≤ i) (hi2 : i < b) (hj : a ≤ j) (hj2 : j < b) (hb : b ≤ d.length) : PIn a b d (sw d i j) :=
  ⟨sw_len .., fun k hk => by rw [sw_co (by omega) (by omega), if_neg (by omega), if_neg (by omega)], sw_perm (by omega) (by omega), fun k h1 h2 => by
    rw [sw_co (by omega) (by omega)]
    by_cases c1 : k = j
    · rw [if_pos c1]; exact ⟨i, hi, hi2, rfl⟩
    · rw [if_neg c1]
      by_cases c2 : k = i
      · rw [if_pos c2]; exact ⟨j, hj, hj2, rfl⟩
      · rw [if_neg c2]; exact ⟨k, h1, h2, rfl⟩⟩
/-- Two stretches change places. -/
def swr (d : List Nat) (a b : Nat) : Nat → List Nat
  | 0 => d
  | k + 1 => sw (swr d a b k) (a + k) (b + k)
theorem swr_len (d : List Nat) (a b k : Nat) : (swr d a b k).length = d.length := by
  induction k with
  | zero => rfl
  | succ k ih => unfold swr; rw [sw_len, ih]
theorem swr_co {d : List Nat} {a b : Nat} : ∀ {k : Nat}, a + k ≤ b → b + k ≤ d.length → ∀ p, co (swr d a b k) p = if a ≤ p ∧ p < a + k then co d (p + (b - a)) else if b ≤ p ∧ p < b + k then co d (p - (b - a)) else co d p
  | 0, _, _, p => by rw [if_neg (by omega), if_neg (by omega)]; rfl
  | k + 1, h1, h2, p => by
    unfold swr
    rw [sw_co (by rw [swr_len]; omega) (by rw [swr_len]; omega), swr_co (by omega) (by omega), swr_co (by omega) (by omega), swr_co (by omega) (by omega)]
    by_cases c1 : p = b + k
    · subst c1
      rw [if_pos rfl, if_neg (by omega), if_neg (by omega), if_neg (by omega), if_pos (by omega)]
      congr 1
      omega
    · rw [if_neg c1]
      by_cases c2 : p = a + k
      · subst c2
        rw [if_pos rfl, if_neg (by omega), if_neg (by omega), if_pos (by omega)]
        congr 1
        omega
      · rw [if_neg c2]
        by_cases c3 : a ≤ p ∧ p < a + k
        · rw [if_pos c3, if_pos (by omega)]
        · rw [if_neg c3, if_neg (show ¬ (a ≤ p ∧ p < a + (k + 1)) by omega)]
          by_cases c4 : b ≤ p ∧ p < b + k
          · rw [if_pos c4, if_pos (by omega)]
          · rw [if_neg c4, if_neg (by omega)]
theorem swr_pin {d : List Nat} {a b x y : Nat} : ∀ {k : Nat}, x ≤ a → a + k ≤ b → b + k ≤ y → y ≤ d.length → PIn x y d (swr d a b k)
  | 0, _, _, _, _ => PIn.refl ..
  | k + 1, h1, h2, h3, h4 => (swr_pin (k := k) h1 (by omega) (by omega) h4).trans (PIn.swap (by omega) (by omega) (by omega) (by omega) (by rw [swr_len]; exact h4))
/-- A stretch turned about: what lies from m up to b comes ahead of what lies from a up to m. -/
def Rot (a m b : Nat) (d d' : List Nat) : Prop := ∀ p, co d' p = if p < a ∨ b ≤ p then co d p else if p < a + (b - m) then co d (p + (m - a)) else co d (p - (b - m))
theorem Rot.less {m i j : Nat} {d d' : List Nat} (hi : j < i) (him : i ≤ m) (hb : m + j ≤ d.length) (h : Rot (m - (i - j)) m (m + j) (swr d (m - i) m j) d') : Rot (m - i) m (m + j) d d' := fun p => by
  rw [h p]
  have s := swr_co (d := d) (a := m - i) (b := m) (k := j) (by omega) hb
  rw [s, s, s]
  by_cases c1 : p < m - i ∨ m + j ≤ p
  · rw [if_pos c1, if_pos (by omega), if_neg (by omega), if_neg (by omega)]
  · rw [if_neg c1]
    by_cases c2 : p < m - i + j
    · rw [if_pos (show p < m - (i - j) ∨ m + j ≤ p by omega), if_pos (by omega), if_pos (by omega)]
    · rw [if_neg (show ¬ (p < m - (i - j) ∨ m + j ≤ p) by omega), if_neg (show ¬ p < m - i + (m + j - m) by omega)]
      by_cases c3 : p < m - (i - j) + (m + j - m)
      · rw [if_pos c3, if_neg (show ¬ (m - i ≤ p + (m - (m - (i - j))) ∧ p + (m - (m - (i - j))) < m - i + j) by omega), if_pos (by omega)]
        congr 1
        omega
      · rw [if_neg c3, if_neg (by omega), if_neg (by omega)]
theorem Rot.more {m i j : Nat} {d d' : List Nat} (hi : i < j) (him : i ≤ m) (hb : m + j ≤ d.length) (h : Rot (m - i) m (m + (j - i)) (swr d (m - i) (m + j - i) i) d') : Rot (m - i) m (m + j) d d' := fun p => by
  rw [h p]
  have s := swr_co (d := d) (a := m - i) (b := m + j - i) (k := i) (by omega) (by omega)
  rw [s, s, s]
  by_cases c1 : p < m - i ∨ m + j ≤ p
  · rw [if_pos c1, if_pos (by omega), if_neg (by omega), if_neg (by omega)]
  · rw [if_neg c1]
    by_cases c2 : m + j - i ≤ p
    · rw [if_pos (show p < m - i ∨ m + (j - i) ≤ p by omega), if_neg (by omega), if_pos (by omega), if_neg (by omega)]
      congr 1
      omega
    · rw [if_neg (show ¬ (p < m - i ∨ m + (j - i) ≤ p) by omega)]
      by_cases c3 : p < m - i + (m + (j - i) - m)
      · rw [if_pos c3, if_pos (show p < m - i + (m + j - m) by omega), if_neg (by omega), if_neg (by omega)]
      · rw [if_neg c3, if_pos (by omega)]
        by_cases c4 : p < m - i + (m + j - m)
        · rw [if_pos c4]
          congr 1
          omega
        · rw [if_neg c4]
          congr 1
          omega
theorem Rot.same {m i : Nat} {d : List Nat} (him : i ≤ m) (hb : m + i ≤ d.length) : Rot (m - i) m (m + i) d (swr d (m - i) m i) := fun p => by
  rw [swr_co (d := d) (a := m - i) (b := m) (k := i) (by omega) (by omega)]
  by_cases c1 : p < m - i ∨ m + i ≤ p
  · rw [if_pos c1, if_neg (by omega), if_neg (by omega)]
  · rw [if_neg c1]
    by_cases c2 : p < m
    · rw [if_pos (by omega), if_pos (by omega)]
    · rw [if_neg (by omega), if_pos (by omega), if_neg (by omega)]
      congr 1
      omega
end Fl

/-
  The library's swapRange over rates of a call's own. Conditions: no more than 2^16 rates.
-/
namespace Go.Proofs.Ytbgpgdbheajekaa
open Go.RowKit
open Pol (co)
open Fl (K sw swr PIn SIn Rot)

/-- Rates of a call's own, in block g. -/
abbrev Own (w : World) (base g n c : Nat) (d : List Nat) : Prop := FMine w base (.slice (some ⟨g, 0, none⟩) n c) d
theorem Own.len {w : World} {base g n c : Nat} {d : List Nat} (h : Own w base g n c d) : d.length = n := by
  rcases h.2 with ⟨e, _⟩ | ⟨g', cap, cur, e, _⟩
  · cases e
  · injection e with _ e2 _
    exact e2.symm
theorem Own.cell {w : World} {base g n c : Nat} {d : List Nat} (h : Own w base g n c d) {i : Nat} (hi : i < n) : w.cell? ⟨g, i, none⟩ = some (.float .f64 (co d i)) ∧ w.frozen? ⟨g, i, none⟩ = false := by
  obtain ⟨g', n', c', e, _, h1, h2⟩ := FMine.spot h (i := i) (by rw [h.len]; exact hi)
  injection e with e1 e2 e3
  injection e1 with e1
  injection e1 with e1
  subst e1
  exact ⟨h1, h2⟩
theorem Own.drewN {w : World} {base g n c : Nat} {d : List Nat} (h : Own w base g n c d) (k : Nat) : Own (w.drewN k) base g n c d := h
theorem Own.put {w : World} {base g n c : Nat} {d : List Nat} (h : Own w base g n c d) (i x : Nat) : Own (w.setCell ⟨g, i, none⟩ (.float .f64 x)) base g n c (d.set i x) := FMine.put h
/-- What a call leaves of rates in block g: all else is as it was. -/
def Lves (X : List Nat → Prop) (base g n c : Nat) (w : World) (e : Ending) (w' : World) : Prop := e = .returned (.tuple #[]) ∧ ∃ d', X d' ∧ Own w' base g n c d' ∧ w.grownBy w' (some g)
theorem grown_refl (w : World) (r : Option Nat) : w.grownBy w r := ⟨rfl, rfl, rfl, Nat.le_refl _, fun _ _ _ => rfl⟩
theorem grown_drewN {w w1 : World} {r : Option Nat} (h : w.grownBy w1 r) (k : Nat) : w.grownBy (w1.drewN k) r := by
  obtain ⟨h1, h2, h3, h4, h5⟩ := h
  exact ⟨h1, h2, h3, h4, h5⟩
theorem grown_put {w w1 : World} {g : Nat} (h : w.grownBy w1 (some g)) (i : Nat) (v : Value) : w.grownBy (w1.setCell ⟨g, i, none⟩ v) (some g) := by
  obtain ⟨h1, h2, h3, h4, h5⟩ := h
  exact ⟨h1, h2, h3, by simpa using h4, fun k hk hne => (Below.heap_setCell _ _ _ k (fun e => hne (by rw [show k = g from e]))).trans (h5 k hk hne)⟩
theorem swap_own {w : World} {base g n c i j x y : Nat} {d : List Nat} (h : Own w base g n c d) (hx : co d j = x) (hy : co d i = y) : Own ((w.setCell ⟨g, i, none⟩ (.float .f64 x)).setCell ⟨g, j, none⟩ (.float .f64 y)) base g n c (sw d i j) := by
  unfold Fl.sw
  rw [hx, hy]
  exact (h.put i x).put j y
set_option maxHeartbeats 1600000 in
theorem st_swap (base g n c a b k : Nat) (cmp : Value) (d : List Nat) (w : World) (h : Own w base g n c d) (h1 : a + k ≤ b) (h2 : b + k ≤ n) (hn : n ≤ 65536) :
    Calls Try.prog 36 #[.slice (some ⟨g, 0, none⟩) n c, .int .i64 (a : Int), .int .i64 (b : Int), .int .i64 (k : Int), cmp] w (Lves (fun d' => d' = swr d a b k) base g n c w) := by
  have hst := fun W a m b => run_store Try.prog W a (.float .f64 b) m rfl
  have H := Lib.hid h
  have HN := Lib.hid h.len
  clear h
  go_enter Try.func36, Try.ntmps36
  go_wp2
  go_loopg [10] k (fun q s wx => ∃ i : Nat, i + q = k ∧ s = .int .i64 (i : Int) ∧ Own wx base g n c (swr d a b i) ∧ w.grownBy wx (some g))
  case atStart => exact ⟨0, by omega, rfl, H.out, grown_refl _ _⟩
  case round =>
    obtain ⟨i, hik, rfl, ho, hg⟩ := hrel
    have HO := Lib.hid ho
    have HG := Lib.hid hg
    clear ho hg
    cases gk with
    | zero =>
      obtain rfl : i = k := by omega
      clear hik
      go_wp2
      go_end0
      exact ⟨rfl, _, rfl, HO.out, HG.out⟩
    | succ q =>
      have hi : (i : Int) < (k : Int) := by omega
      obtain ⟨p1, e1⟩ : ∃ p, a + i = p := ⟨_, rfl⟩
      obtain ⟨p2, e2⟩ : ∃ p, b + i = p := ⟨_, rfl⟩
      have z1 : (a : Int) + (i : Int) = (p1 : Int) := by omega
      have z2 : (b : Int) + (i : Int) = (p2 : Int) := by omega
      have b1 : p1 < n := by omega
      have b2 : p2 < n := by omega
      have hne : p1 ≠ p2 := by omega
      obtain ⟨c1, f1⟩ := HO.out.cell b1
      obtain ⟨c2, f2⟩ := HO.out.cell b2
      obtain ⟨x1, v1⟩ : ∃ x, co (swr d a b i) p1 = x := ⟨_, rfl⟩
      obtain ⟨x2, v2⟩ : ∃ x, co (swr d a b i) p2 = x := ⟨_, rfl⟩
      rw [v1] at c1
      rw [v2] at c2
      have HV := Lib.hid (And.intro v1 v2)
      have HE := Lib.hid (And.intro e1 e2)
      have HIK := Lib.hid hik
      clear v1 v2 e1 e2 hik
      go_wp2
      go_big_region
      all_goals go_wp2
      go_roundg q
      case measure => omega
      case rel => exact ⟨i + 1, by have := HIK.out; omega, by go_num, by
        unfold Fl.swr
        rw [HE.out.1, HE.out.2]
        exact swap_own (HO.out.drewN 1) HV.out.2 HV.out.1, grown_put (grown_put (grown_drewN HG.out 1) _ _) _ _⟩
end Go.Proofs.Ytbgpgdbheajekaa

/-
  The library's rotate over rates of a call's own. Conditions: no more than 2^16 rates.
-/
namespace Go.Proofs.Ytbgpgdbheajekaa
open Go.RowKit
open Pol (co)
open Fl (K sw swr PIn SIn Rot)

theorem Lves.mono {X Y : List Nat → Prop} {base g n c : Nat} {w : World} {e : Ending} {w' : World} (h : Lves X base g n c w e w') (k : ∀ d, X d → Y d) : Lves Y base g n c w e w' := by
  obtain ⟨he, d', hx, ho, hg⟩ := h
  exact ⟨he, d', k _ hx, ho, hg⟩
theorem grown_trans {w w1 w2 : World} {r : Option Nat} (h : w.grownBy w1 r) (k : w1.grownBy w2 r) : w.grownBy w2 r := by
  obtain ⟨h1, h2, h3, h4, h5⟩ := h
  obtain ⟨k1, k2, k3, k4, k5⟩ := k
  exact ⟨k1.trans h1, k2.trans h2, k3.trans h3, Nat.le_trans h4 k4, fun q hq hne => (k5 q (by omega) hne).trans (h5 q hq hne)⟩
set_option maxHeartbeats 1600000 in
theorem st_rot (base g n c a m b : Nat) (cmp : Value) (d : List Nat) (w : World) (h : Own w base g n c d) (h1 : a < m) (h2 : m < b) (h3 : b ≤ n) (hn : n ≤ 65536) :
    Calls Try.prog 35 #[.slice (some ⟨g, 0, none⟩) n c, .int .i64 (a : Int), .int .i64 (m : Int), .int .i64 (b : Int), cmp] w (Lves (fun d' => Rot a m b d d' ∧ PIn a b d d') base g n c w) := by
  have H := Lib.hid h
  have HN := Lib.hid h.len
  obtain ⟨i0, e1⟩ : ∃ p, m - a = p := ⟨_, rfl⟩
  obtain ⟨j0, e2⟩ : ∃ p, b - m = p := ⟨_, rfl⟩
  have z1 : (m : Int) - (a : Int) = (i0 : Int) := by omega
  have z2 : (b : Int) - (m : Int) = (j0 : Int) := by omega
  have HA := Lib.hid (show m - i0 = a ∧ m + j0 = b by omega)
  have hi0 : 0 < i0 ∧ 0 < j0 ∧ i0 ≤ m ∧ m + j0 ≤ n := by omega
  clear h e1 e2
  go_enter Try.func35, Try.ntmps35
  go_wp2
  go_loopg [10, 11] (i0 + j0) (fun q s10 s11 wx => ∃ i j : Nat, s10 = .int .i64 (i : Int) ∧ s11 = .int .i64 (j : Int) ∧ i + j ≤ q ∧ 0 < i ∧ 0 < j ∧ i ≤ m ∧ m + j ≤ n ∧ a ≤ m - i ∧ m + j ≤ b ∧ w.grownBy wx (some g) ∧ ∃ x, Own wx base g n c x ∧ PIn a b d x ∧ ∀ y, Rot (m - i) m (m + j) x y → Rot a m b d y)
  case atStart => exact ⟨i0, j0, rfl, rfl, Nat.le_refl _, hi0.1, hi0.2.1, hi0.2.2.1, hi0.2.2.2, by have := HA.out; omega, by have := HA.out; omega, grown_refl _ _, d, H.out, PIn.refl .., fun y hy => by rw [HA.out.1, HA.out.2] at hy; exact hy⟩
  case round =>
    obtain ⟨i, j, rfl, rfl, hq, hi, hj, him, hjn, hai, hjb, hg, x, ho, hp, hr⟩ := hrel
    have HG := Lib.hid hg
    have HO := Lib.hid ho
    have HP := Lib.hid hp
    have HR := Lib.hid hr
    have HX := Lib.hid ho.len
    clear hg ho hp hr z1 z2 hi0 HA H
    obtain ⟨mi, e1⟩ : ∃ p, m - i = p := ⟨_, rfl⟩
    have z1 : (m : Int) - (i : Int) = (mi : Int) := by omega
    have HM := Lib.hid e1
    rcases Nat.lt_trichotomy i j with hij | hij | hij
    · -- the left part is the shorter one
      have d1 : ((i : Int) != (j : Int)) = true := by simp; omega
      have d2 : decide ((i : Int) = (j : Int)) = false := decide_eq_false (by omega)
      have d3 : decide (i = j) = false := decide_eq_false (by omega)
      have d4 : decide ((i : Int) > (j : Int)) = false := decide_eq_false (by omega)
      have d5 : decide ((j : Int) < (i : Int)) = false := decide_eq_false (by omega)
      obtain ⟨ji, e2⟩ : ∃ p, j - i = p := ⟨_, rfl⟩
      obtain ⟨mj, e3⟩ : ∃ p, m + j = p := ⟨_, rfl⟩
      obtain ⟨mji, e4⟩ : ∃ p, mj - i = p := ⟨_, rfl⟩
      have z2 : (j : Int) - (i : Int) = (ji : Int) := by omega
      have z3 : (m : Int) + (j : Int) = (mj : Int) := by omega
      have z4 : (mj : Int) - (i : Int) = (mji : Int) := by omega
      have HE := Lib.hid (And.intro e2 (And.intro e3 e4))
      have HSW := Lib.hid (st_swap base g n c mi mji i cmp x wr HO.out (by omega) (by omega) hn)
      cases gk with
      | zero => omega
      | succ q =>
        clear e1 e2 e3 e4
        go_wp2_with fail
        refine HSW.out.mono ?_
        rintro e w1 ⟨rfl, y, rfl, ho1, hg1⟩
        have HO1 := Lib.hid ho1
        have HG1 := Lib.hid (grown_trans HG.out hg1)
        clear ho1 hg1
        go_wp2
        go_roundg q
        case measure => omega
        case rel =>
          obtain ⟨e2, e3, e4⟩ := HE.out
          have e1 := HM.out
          have hxl := HX.out
          refine ⟨i, ji, rfl, by go_num, by omega, hi, by omega, him, by omega, hai, by omega, HG1.out, _, HO1.out, HP.out.trans (Fl.swr_pin (by omega) (by omega) (by omega) (by rw [HP.out.len, HN.out]; exact h3)), fun y hy => HR.out y ?_⟩
          refine Rot.more hij him (by omega) ?_
          rw [e1, show m + j - i = mji by omega, show j - i = ji by omega] at *
          exact hy
    · -- both are as long
      subst hij
      have HSW := Lib.hid (st_swap base g n c mi m i cmp x wr HO.out (by omega) (by omega) hn)
      clear e1
      go_wp2_with fail
      refine HSW.out.mono ?_
      rintro e w1 ⟨rfl, y, rfl, ho1, hg1⟩
      have HO1 := Lib.hid ho1
      have HG1 := Lib.hid (grown_trans HG.out hg1)
      clear ho1 hg1
      go_wp2
      go_end0
      have e1 := HM.out
      have hxl := HX.out
      refine ⟨rfl, _, ⟨HR.out _ ?_, HP.out.trans (Fl.swr_pin (by omega) (by omega) (by omega) (by rw [HP.out.len, HN.out]; exact h3))⟩, HO1.out, HG1.out⟩
      rw [← e1]
      exact Rot.same him (by omega)
    · -- the right part is the shorter one
      have d1 : ((i : Int) != (j : Int)) = true := by simp; omega
      have d2 : decide ((i : Int) = (j : Int)) = false := decide_eq_false (by omega)
      have d3 : decide (i = j) = false := decide_eq_false (by omega)
      have d4 : decide ((i : Int) > (j : Int)) = true := decide_eq_true (by omega)
      have d5 : decide ((j : Int) < (i : Int)) = true := decide_eq_true (by omega)
      obtain ⟨ij, e2⟩ : ∃ p, i - j = p := ⟨_, rfl⟩
      have z2 : (i : Int) - (j : Int) = (ij : Int) := by omega
      have HE := Lib.hid e2
      have HSW := Lib.hid (st_swap base g n c mi m j cmp x wr HO.out (by omega) (by omega) hn)
      cases gk with
      | zero => omega
      | succ q =>
        clear e1 e2
        go_wp2_with fail
        refine HSW.out.mono ?_
        rintro e w1 ⟨rfl, y, rfl, ho1, hg1⟩
        have HO1 := Lib.hid ho1
        have HG1 := Lib.hid (grown_trans HG.out hg1)
        clear ho1 hg1
        go_wp2
        go_roundg q
        case measure => omega
        case rel =>
          have e2 := HE.out
          have e1 := HM.out
          have hxl := HX.out
          refine ⟨ij, j, by go_num, rfl, by omega, by omega, hj, by omega, hjn, by omega, hjb, HG1.out, _, HO1.out, HP.out.trans (Fl.swr_pin (by omega) (by omega) (by omega) (by rw [HP.out.len, HN.out]; exact h3)), fun y hy => HR.out y ?_⟩
          refine Rot.less hij him (by omega) ?_
          rw [e1, e2]
          exact hy
end Go.Proofs.Ytbgpgdbheajekaa

/-
  Insertion in place, on plain lists. Conditions: none; nothing of the program is named here.
-/
namespace Fl
open Pol (co)

/-- In order from a up to i, but for what stands at j, which is not behind what follows it. -/
def Ins (a i j : Nat) (d : List Nat) : Prop := (∀ p q, a ≤ p → p ≤ q → q ≤ i → p ≠ j → q ≠ j → K (co d p) ≤ K (co d q)) ∧ ∀ q, j < q → q ≤ i → K (co d j) ≤ K (co d q)
theorem Ins.start {a i : Nat} {d : List Nat} (h : SIn a i d) : Ins a i i d := ⟨fun p q h1 h2 h3 h4 h5 => h p q h1 h2 (by omega), fun q h1 h2 => by omega⟩
theorem Ins.stop {a i j : Nat} {d : List Nat} (h : Ins a i j d) (haj : a ≤ j) (hs : j = a ∨ ¬ K (co d j) < K (co d (j - 1))) : SIn a (i + 1) d := fun p q h1 h2 h3 => by
  by_cases c1 : p = j
  · subst c1
    by_cases c2 : q = p
    · subst c2; exact Int.le_refl _
    · exact h.2 q (by omega) (by omega)
  · by_cases c2 : q = j
    · subst c2
      rcases hs with hs | hs
      · omega
      · have := h.1 p (q - 1) h1 (by omega) (by omega) c1 (by omega)
        omega
    · exact h.1 p q h1 h2 (by omega) c1 c2
theorem Ins.step {a i j : Nat} {d : List Nat} (h : Ins a i (j + 1) d) (haj : a ≤ j) (hji : j + 1 ≤ i) (hi : i < d.length) (hl : K (co d (j + 1)) < K (co d j)) : Ins a i j (sw d (j + 1) j) := by
  have s := sw_co (d := d) (i := j + 1) (j := j) (by omega) (by omega)
  constructor
  · intro p q h1 h2 h3 h4 h5
    rw [s, s, if_neg h4, if_neg h5]
    by_cases c1 : p = j + 1
    · subst c1
      rw [if_pos rfl]
      by_cases c2 : q = j + 1
      · subst c2; rw [if_pos rfl]; exact Int.le_refl _
      · rw [if_neg c2]
        exact h.1 j q haj (by omega) h3 (by omega) c2
    · rw [if_neg c1]
      by_cases c2 : q = j + 1
      · subst c2
        rw [if_pos rfl]
        exact h.1 p j h1 (by omega) (by omega) c1 (by omega)
      · rw [if_neg c2]
        exact h.1 p q h1 h2 h3 c1 c2
  · intro q h1 h2
    rw [s, s, if_pos rfl, if_neg (by omega)]
    by_cases c2 : q = j + 1
    · subst c2
      rw [if_pos rfl]
      exact Int.le_of_lt hl
    · rw [if_neg c2]
      exact h.2 q (by omega) h2
end Fl

/-
  The library's insertion sort over rates of a call's own, by a function that tells which one is ahead. Conditions: no more than 2^16 rates.
-/
namespace Go.Proofs.Ytbgpgdbheajekaa
open Go.RowKit
open Pol (co)
open Fl (K sw swr PIn SIn Rot Ins)

/-- The function that compares: below 0 just where the first one is ahead. -/
def CmpOk : Prop := ∀ x y : Nat, x < 18446744073709551616 → y < 18446744073709551616 → ∃ z : Int, (z < 0 ↔ K x < K y) ∧ ∀ w, Calls Try.prog 27 #[.float .f64 x, .float .f64 y] w (Hands (.int .i64 z) w)
abbrev cmpv : Value := .func (.func 27) #[] #[]
theorem perm_f64 {d d' : List Nat} (h : F64 d) (hp : d'.Perm d) : F64 d' := f64_list fun x hx => h.mem x (hp.mem_iff.1 hx)
set_option maxHeartbeats 3200000 in
theorem st_ins (C : CmpOk) (base g n c a b : Nat) (d : List Nat) (w : World) (h : Own w base g n c d) (hf : F64 d) (h1 : a ≤ b) (h2 : b ≤ n) (hn : n ≤ 65536) :
    Calls Try.prog 33 #[.slice (some ⟨g, 0, none⟩) n c, .int .i64 (a : Int), .int .i64 (b : Int), cmpv] w (Lves (fun d' => SIn a b d' ∧ PIn a b d d') base g n c w) := by
  have hst := fun W p m x => run_store Try.prog W p (.float .f64 x) m rfl
  have H := Lib.hid h
  have HF := Lib.hid hf
  have HN := Lib.hid h.len
  clear h hf
  go_enter Try.func33, Try.ntmps33
  go_wp2
  go_loopg [8] (b - a) (fun q s wx => ∃ i : Nat, s = .int .i64 (i : Int) ∧ a < i ∧ i ≤ b + 1 ∧ b ≤ i + q ∧ w.grownBy wx (some g) ∧ ∃ x, Own wx base g n c x ∧ PIn a b d x ∧ SIn a i x)
  case atStart => exact ⟨a + 1, by go_num, by omega, by omega, by omega, grown_refl _ _, d, H.out, PIn.refl .., SIn.one (by omega)⟩
  case round =>
    obtain ⟨i, rfl, hai, hib, hq, hg, x, ho, hp, hs⟩ := hrel
    have HG := Lib.hid hg
    have HO := Lib.hid ho
    have HP := Lib.hid hp
    have HS := Lib.hid hs
    clear hg ho hp hs
    by_cases hlt : i < b
    · have hltz : (i : Int) < (b : Int) := by omega
      obtain ⟨wo, hwo⟩ : ∃ wq, wq = wr := ⟨_, rfl⟩
      subst hwo
      go_wp2
      go_loopg [9] i (fun j s wx => s = .int .i64 (j : Int) ∧ a ≤ j ∧ j ≤ i ∧ w.grownBy wx (some g) ∧ ∃ y, Own wx base g n c y ∧ PIn a b d y ∧ Ins a i j y)
      case atStart => exact ⟨rfl, by omega, Nat.le_refl _, HG.out, x, HO.out, HP.out, Ins.start HS.out⟩
      case round =>
        obtain ⟨rfl, haj, hji, hg2, y, ho2, hp2, hi2⟩ := hrel
        have HG2 := Lib.hid hg2
        have HO2 := Lib.hid ho2
        have HP2 := Lib.hid hp2
        have HI2 := Lib.hid hi2
        clear hg2 ho2 hp2 hi2
        by_cases hja : a < gk
        · obtain ⟨jp, rfl⟩ : ∃ jp, gk = jp + 1 := ⟨gk - 1, by omega⟩
          obtain ⟨c1, f1⟩ := HO2.out.cell (i := jp + 1) (by omega)
          obtain ⟨c2, f2⟩ := HO2.out.cell (i := jp) (by omega)
          obtain ⟨z, hz, HCC⟩ := C (co y (jp + 1)) (co y jp) (perm_f64 HF.out HP2.out.perm (jp + 1)) (perm_f64 HF.out HP2.out.perm jp)
          have HC := Lib.hid HCC
          have HZ := Lib.hid hz
          have hjaz : (a : Int) < (jp : Int) + 1 := by omega
          have hjaz2 : decide ((jp : Int) + 1 > (a : Int)) = true := decide_eq_true (by omega)
          have jz : (jp : Int) + 1 < (n : Int) := by omega
          have jz1 : (jp : Int) < (n : Int) := by omega
          have e0 : ((jp : Int) + 1).toNat = jp + 1 := by omega
          have e1 : (jp : Int) + 1 - 1 = (jp : Int) := by omega
          obtain ⟨v1, hv1⟩ : ∃ v, co y (jp + 1) = v := ⟨_, rfl⟩
          obtain ⟨v2, hv2⟩ : ∃ v, co y jp = v := ⟨_, rfl⟩
          rw [hv1] at c1 HC
          rw [hv2] at c2 HC
          have HV := Lib.hid (And.intro hv1 hv2)
          clear hz HCC hv1 hv2
          by_cases hneg : z < 0
          · have dz : decide (z < 0) = true := decide_eq_true hneg
            go_wp2
            go_quiet (first | (go_at_call 27; exact quiet_hands (HC.out _)))
            have HG3 := Lib.hid (grown_drewN HG2.out nq)
            have HO3 := Lib.hid (HO2.out.drewN nq)
            have c1' : (wr.drewN nq).cell? ⟨g, jp + 1, none⟩ = some (.float .f64 v1) := c1
            have c2' : (wr.drewN nq).cell? ⟨g, jp, none⟩ = some (.float .f64 v2) := c2
            have f1' : (wr.drewN nq).frozen? ⟨g, jp + 1, none⟩ = false := f1
            have f2' : (wr.drewN nq).frozen? ⟨g, jp, none⟩ = false := f2
            clear c1 c2 f1 f2 HO2 HG2
            generalize wr.drewN nq = wq at *
            obtain ⟨j1, hj1⟩ : ∃ j1, j1 = jp + 1 := ⟨_, rfl⟩
            rw [← hj1] at c1' f1' e0
            have hne : j1 ≠ jp := by omega
            have J1 := Lib.hid hj1
            clear hj1
            go_wp2
            go_big_region
            all_goals go_wp2
            go_roundg jp
            case measure => omega
            case rel =>
              have hl : K (co y (jp + 1)) < K (co y jp) := HZ.out.1 hneg
              refine ⟨by go_num, by omega, by omega, grown_put (grown_put (grown_drewN HG3.out 1) _ _) _ _, _, swap_own (i := j1) (j := jp) (HO3.out.drewN 1) HV.out.2 (by rw [J1.out]; exact HV.out.1), ?_, ?_⟩
              · rw [J1.out]
                exact HP2.out.trans (PIn.swap (by omega) (by omega) (by omega) (by omega) (by rw [HO3.out.len]; exact h2))
              · rw [J1.out]
                exact HI2.out.step (by omega) (by omega) (by rw [HO3.out.len]; omega) hl
          · have dz : decide (z < 0) = false := decide_eq_false hneg
            go_wp2
            go_quiet (first | (go_at_call 27; exact quiet_hands (HC.out _)))
            go_wp2
            go_roundg (b - (i + 1))
            case measure => omega
            case rel => exact ⟨i + 1, by go_num, by omega, by omega, by omega, grown_drewN HG2.out nq, y, HO2.out.drewN nq, HP2.out, HI2.out.stop (by omega) (.inr (fun hh => absurd (HZ.out.2 (by simpa using hh)) (by omega)))⟩
        · obtain rfl : gk = a := by omega
          have hjaz : decide ((gk : Int) > (gk : Int)) = false := decide_eq_false (by omega)
          have hjaz' : ¬ (gk : Int) < (gk : Int) := by omega
          go_wp2
          go_quiet (fail)
          go_wp2
          go_roundg (b - (i + 1))
          case measure => omega
          case rel => exact ⟨i + 1, by go_num, by omega, by omega, by omega, grown_drewN HG2.out nq, y, HO2.out.drewN nq, HP2.out, HI2.out.stop (Nat.le_refl _) (.inl rfl)⟩
    · have hltz : ¬ (i : Int) < (b : Int) := by omega
      go_wp2
      go_end0
      exact ⟨rfl, x, ⟨HS.out.sub (Nat.le_refl _) (by omega), HP.out⟩, HO.out, HG.out⟩
end Go.Proofs.Ytbgpgdbheajekaa

/-
  Merging in place, on plain lists. Conditions: none; nothing of the program is named here.
-/
namespace Fl
open Pol (co)

/-- What stands at a goes k places to the right; what stands at m goes k places to the left. -/
def lft (d : List Nat) (a : Nat) : Nat → List Nat
  | 0 => d
  | k + 1 => sw (lft d a k) (a + k) (a + k + 1)
def rgt (d : List Nat) (m : Nat) : Nat → List Nat
  | 0 => d
  | k + 1 => sw (rgt d m k) (m - k) (m - k - 1)
theorem lft_len (d : List Nat) (a k : Nat) : (lft d a k).length = d.length := by
  induction k with
  | zero => rfl
  | succ k ih => unfold lft; rw [sw_len, ih]
theorem rgt_len (d : List Nat) (a k : Nat) : (rgt d a k).length = d.length := by
  induction k with
  | zero => rfl
  | succ k ih => unfold rgt; rw [sw_len, ih]
theorem lft_co {d : List Nat} {a : Nat} : ∀ {k : Nat}, a + k < d.length → ∀ p, co (lft d a k) p = if a ≤ p ∧ p < a + k then co d (p + 1) else if p = a + k then co d a else co d p
  | 0, _, p => by
    rw [if_neg (by omega)]
    split
    · rename_i h; subst h; rfl
    · rfl
  | k + 1, h, p => by
    unfold lft
    rw [sw_co (by rw [lft_len]; omega) (by rw [lft_len]; omega), lft_co (by omega), lft_co (by omega), lft_co (by omega)]
    by_cases c1 : p = a + k + 1
    · rw [if_pos c1, if_neg (by omega), if_pos rfl, if_neg (by omega), if_pos (by omega)]
    · rw [if_neg c1]
      by_cases c2 : p = a + k
      · rw [if_pos c2, if_neg (by omega), if_neg (by omega), if_pos (by omega)]
        congr 1
        omega
      · rw [if_neg c2, if_neg c2]
        by_cases c3 : a ≤ p ∧ p < a + k
        · rw [if_pos c3, if_pos (by omega)]
        · rw [if_neg c3, if_neg (by omega), if_neg (by omega)]
theorem rgt_co {d : List Nat} {m : Nat} : ∀ {k : Nat}, k ≤ m → m < d.length → ∀ p, co (rgt d m k) p = if m - k < p ∧ p ≤ m then co d (p - 1) else if p = m - k then co d m else co d p
  | 0, _, _, p => by
    rw [if_neg (by omega)]
    split
    · rename_i h; rw [show p = m by omega]; rfl
    · rfl
  | k + 1, h, hm, p => by
    unfold rgt
    rw [sw_co (by rw [rgt_len]; omega) (by rw [rgt_len]; omega), rgt_co (by omega) hm, rgt_co (by omega) hm, rgt_co (by omega) hm]
    by_cases c1 : p = m - k - 1
    · rw [if_pos c1, if_neg (by omega), if_pos rfl, if_neg (by omega), if_pos (by omega)]
    · rw [if_neg c1]
      by_cases c2 : p = m - k
      · rw [if_pos c2, if_neg (by omega), if_neg (by omega), if_pos (by omega)]
        congr 1
        omega
      · rw [if_neg c2, if_neg c2]
        by_cases c3 : m - k < p ∧ p ≤ m
        · rw [if_pos c3, if_pos (by omega)]
        · rw [if_neg c3, if_neg (by omega), if_neg (by omega)]
theorem lft_pin {d : List Nat} {a x y : Nat} : ∀ {k : Nat}, x ≤ a → a + k < y → y ≤ d.length → PIn x y d (lft d a k)
  | 0, _, _, _ => PIn.refl ..
  | k + 1, h1, h2, h3 => (lft_pin (k := k) h1 (by omega) h3).trans (PIn.swap (by omega) (by omega) (by omega) (by omega) (by rw [lft_len]; exact h3))
theorem rgt_pin {d : List Nat} {m x y : Nat} : ∀ {k : Nat}, x + k ≤ m → m < y → y ≤ d.length → PIn x y d (rgt d m k)
  | 0, _, _, _ => PIn.refl ..
  | k + 1, h1, h2, h3 => (rgt_pin (k := k) (by omega) h2 h3).trans (PIn.swap (by omega) (by omega) (by omega) (by omega) (by rw [rgt_len]; exact h3))
/-- One on the left is put in. -/
theorem lft_sin {d : List Nat} {a b i : Nat} (hb : b ≤ d.length) (hi : a + 1 ≤ i) (hib : i ≤ b) (hs : SIn (a + 1) b d) (hl : ∀ p, a + 1 ≤ p → p < i → K (co d p) < K (co d a)) (hr : ∀ p, i ≤ p → p < b → K (co d a) ≤ K (co d p)) : SIn a b (lft d a (i - (a + 1))) := fun p q h1 h2 h3 => by
  have s := lft_co (d := d) (a := a) (k := i - (a + 1)) (by omega)
  rw [s, s]
  by_cases c1 : a ≤ p ∧ p < a + (i - (a + 1))
  · rw [if_pos c1]
    by_cases c2 : a ≤ q ∧ q < a + (i - (a + 1))
    · rw [if_pos c2]; exact hs _ _ (by omega) (by omega) (by omega)
    · rw [if_neg c2]
      by_cases c3 : q = a + (i - (a + 1))
      · rw [if_pos c3]; exact Int.le_of_lt (hl _ (by omega) (by omega))
      · rw [if_neg c3]; exact hs _ _ (by omega) (by omega) (by omega)
  · rw [if_neg c1, if_neg (show ¬ (a ≤ q ∧ q < a + (i - (a + 1))) by omega)]
    by_cases c4 : p = a + (i - (a + 1))
    · rw [if_pos c4]
      by_cases c3 : q = a + (i - (a + 1))
      · rw [if_pos c3]; exact Int.le_refl _
      · rw [if_neg c3]; exact hr _ (by omega) (by omega)
    · rw [if_neg c4, if_neg (by omega)]; exact hs _ _ (by omega) (by omega) (by omega)
/-- One on the right is put in. -/
theorem rgt_sin {d : List Nat} {a m i : Nat} (hm : m < d.length) (hi : a ≤ i) (him : i ≤ m) (hs : SIn a m d) (hl : ∀ p, a ≤ p → p < i → K (co d p) ≤ K (co d m)) (hr : ∀ p, i ≤ p → p < m → K (co d m) < K (co d p)) : SIn a (m + 1) (rgt d m (m - i)) := fun p q h1 h2 h3 => by
  have s := rgt_co (d := d) (m := m) (k := m - i) (by omega) hm
  rw [s, s]
  by_cases c1 : m - (m - i) < p ∧ p ≤ m
  · rw [if_pos c1, if_pos (by omega)]; exact hs _ _ (by omega) (by omega) (by omega)
  · rw [if_neg c1]
    by_cases c4 : p = m - (m - i)
    · rw [if_pos c4]
      by_cases c2 : m - (m - i) < q ∧ q ≤ m
      · rw [if_pos c2]; exact Int.le_of_lt (hr _ (by omega) (by omega))
      · rw [if_neg c2, if_pos (by omega)]; exact Int.le_refl _
    · rw [if_neg c4]
      by_cases c2 : m - (m - i) < q ∧ q ≤ m
      · rw [if_pos c2]; exact hs _ _ (by omega) (by omega) (by omega)
      · rw [if_neg c2]
        by_cases c3 : q = m - (m - i)
        · rw [if_pos c3]; exact hl _ (by omega) (by omega)
        · rw [if_neg c3]; exact hs _ _ (by omega) (by omega) (by omega)
theorem Rot.none {a m b : Nat} (d : List Nat) (h : a = m ∨ b = m) (h1 : a ≤ m) (h2 : m ≤ b) : Rot a m b d d := fun p => by
  by_cases c1 : p < a ∨ b ≤ p
  · rw [if_pos c1]
  · rw [if_neg c1]
    rcases h with rfl | rfl
    · rw [if_pos (by omega)]
      congr 1
      omega
    · rw [if_neg (by omega)]
      congr 1
      omega
/-- What the search for the place of the cut leaves. -/
structure Cutp (a m b mid s : Nat) (d : List Nat) : Prop where
  lo : a ≤ s
  lo2 : mid + m ≤ b + s
  hm : s ≤ m
  hmid : s ≤ mid
  left : a < s → mid + m < b + s → K (co d (s - 1)) ≤ K (co d (mid + m - s))
  right : s < m → s < mid → K (co d (mid + m - s - 1)) < K (co d s)
/-- Behind the turn: four stretches in order, the two on the left not behind the two on the right. -/
theorem Cutp.parts {a m b mid s : Nat} {d d' : List Nat} (h : Cutp a m b mid s d) (ham : a < m) (hmb : m < b) (h1 : SIn a m d) (h2 : SIn m b d) (hr : Rot s m (mid + m - s) d d') :
    SIn a s d' ∧ SIn s mid d' ∧ SIn mid (mid + m - s) d' ∧ SIn (mid + m - s) b d' ∧ ∀ p q, a ≤ p → p < mid → mid ≤ q → q < b → K (co d' p) ≤ K (co d' q) := by
  obtain ⟨lo, lo2, hm, hmid, hl, hri⟩ := h
  have w1 : ∀ p, p < s ∨ mid + m - s ≤ p → co d' p = co d p := fun p hp => by rw [hr p, if_pos hp]
  have w2 : ∀ p, s ≤ p → p < mid → co d' p = co d (p + (m - s)) := fun p k1 k2 => by rw [hr p, if_neg (by omega), if_pos (by omega)]
  have w3 : ∀ p, mid ≤ p → p < mid + m - s → co d' p = co d (p - (mid - s)) := fun p k1 k2 => by
    rw [hr p, if_neg (by omega), if_neg (by omega)]
    congr 1
    omega
  refine ⟨fun p q k1 k2 k3 => ?_, fun p q k1 k2 k3 => ?_, fun p q k1 k2 k3 => ?_, fun p q k1 k2 k3 => ?_, fun p q k1 k2 k3 k4 => ?_⟩
  · rw [w1 p (by omega), w1 q (by omega)]; exact h1 _ _ k1 k2 (by omega)
  · rw [w2 p (by omega) (by omega), w2 q (by omega) (by omega)]; exact h2 _ _ (by omega) (by omega) (by omega)
  · rw [w3 p (by omega) (by omega), w3 q (by omega) (by omega)]; exact h1 _ _ (by omega) (by omega) (by omega)
  · rw [w1 p (by omega), w1 q (by omega)]; exact h2 _ _ (by omega) k2 k3
  · by_cases c1 : p < s
    · rw [w1 p (by omega)]
      by_cases c2 : q < mid + m - s
      · rw [w3 q k3 c2]; exact h1 _ _ k1 (by omega) (by omega)
      · rw [w1 q (by omega)]
        have e1 := hl (by omega) (by omega)
        have e2 := h1 p (s - 1) k1 (by omega) (by omega)
        have e3 := h2 (mid + m - s) q (by omega) (by omega) k4
        omega
    · rw [w2 p (by omega) k2]
      by_cases c2 : q < mid + m - s
      · rw [w3 q k3 c2]
        have e1 := hri (by omega) (by omega)
        have e2 := h2 (p + (m - s)) (mid + m - s - 1) (by omega) (by omega) (by omega)
        have e3 := h1 s (q - (mid - s)) (by omega) (by omega) (by omega)
        omega
      · rw [w1 q (by omega)]; exact h2 _ _ (by omega) (by omega) k4
theorem cross_keep {a m b : Nat} {d d1 d2 : List Nat} (h1 : PIn a m d d1) (h2 : PIn m b d1 d2) (hx : ∀ p q, a ≤ p → p < m → m ≤ q → q < b → K (co d p) ≤ K (co d q)) : ∀ p q, a ≤ p → p < m → m ≤ q → q < b → K (co d2 p) ≤ K (co d2 q) := fun p q k1 k2 k3 k4 => by
  obtain ⟨j, j1, j2, e⟩ := h1.inn p k1 k2
  obtain ⟨l, l1, l2, e'⟩ := h2.inn q k3 k4
  rw [h2.out p (by omega), e, e', h1.out l (by omega)]
  exact hx j l j1 j2 l1 l2
theorem up_of {d : List Nat} (h : SIn 0 d.length d) : Up d := List.pairwise_iff_getElem.2 fun i j hi hj hij => by
  have := h i j (Nat.zero_le _) (by omega) hj
  unfold co at this
  rwa [List.getElem?_eq_getElem hi, List.getElem?_eq_getElem hj] at this
end Fl

/-
  The library's symMerge over rates of a call's own. Conditions: no more than 2^16 rates.
-/
namespace Go.Proofs.Ytbgpgdbheajekaa
open Go.RowKit
open Pol (co)
open Fl (K sw swr PIn SIn Rot Ins Cutp)

/-- What symMerge is to do. -/
def MrgS (N : Nat) : Prop := ∀ (a m b base g n c : Nat) (d : List Nat) (w : World), b - a ≤ N → a < m → m < b → b ≤ n → n ≤ 65536 → Own w base g n c d → F64 d → SIn a m d → SIn m b d →
    Calls Try.prog 34 #[.slice (some ⟨g, 0, none⟩) n c, .int .i64 (a : Int), .int .i64 (m : Int), .int .i64 (b : Int), cmpv] w (Lves (fun d' => SIn a b d' ∧ PIn a b d d') base g n c w)
set_option maxHeartbeats 3200000 in
set_option maxRecDepth 100000 in
theorem mrg_a (C : CmpOk) (a m b base g n c : Nat) (d : List Nat) (w : World) (_ham : a < m) (hmb : m < b) (hbn : b ≤ n) (hn : n ≤ 65536) (h : Own w base g n c d) (hf : F64 d) (hs1 : SIn a m d) (hs2 : SIn m b d) (hA : m = a + 1) :
    Calls Try.prog 34 #[.slice (some ⟨g, 0, none⟩) n c, .int .i64 (a : Int), .int .i64 (m : Int), .int .i64 (b : Int), cmpv] w (Lves (fun d' => SIn a b d' ∧ PIn a b d d') base g n c w) := by
  have hst := fun W p m x => run_store Try.prog W p (.float .f64 x) m rfl
  have H := Lib.hid h
  have HF := Lib.hid hf
  have HN := Lib.hid h.len
  have HS1 := Lib.hid hs1
  have HS2 := Lib.hid hs2
  clear h hf hs1 hs2
  have zA : (m : Int) - (a : Int) = 1 := by omega
  have HA := Lib.hid hA
  clear hA
  go_enter Try.func34, Try.ntmps34
  go_wp2
  go_loopg [10, 11] (b - m) (fun q s1 s2 wx => ∃ i j : Nat, s1 = .int .i64 (i : Int) ∧ s2 = .int .i64 (j : Int) ∧ m ≤ i ∧ i ≤ j ∧ j ≤ b ∧ j ≤ i + q ∧ (∀ p, m ≤ p → p < i → K (co d p) < K (co d a)) ∧ (∀ p, j ≤ p → p < b → K (co d a) ≤ K (co d p)) ∧ ∃ k, wx = w.drewN k)
  case atStart => exact ⟨m, b, rfl, rfl, Nat.le_refl _, by omega, Nat.le_refl _, by omega, fun p h1 h2 => absurd h2 (by omega), fun p h1 h2 => absurd h2 (by omega), 0, rfl⟩
  case round =>
    obtain ⟨i, j, rfl, rfl, hli, hij, hjh, hq, hv1, hv2, k, hwk⟩ := hrel
    have HW := Lib.hid hwk
    have HV1 := Lib.hid hv1
    have HV2 := Lib.hid hv2
    clear hwk hv1 hv2
    by_cases hlt : i < j
    · have hltz : (i : Int) < (j : Int) := by omega
      cases gk with
      | zero => omega
      | succ q =>
        obtain ⟨h, eh⟩ : ∃ q, (i + j) / 2 = q := ⟨_, rfl⟩
        obtain ⟨ij, eij⟩ : ∃ q, i + j = q := ⟨_, rfl⟩
        have zij : (i : Int) + (j : Int) = (ij : Int) := by omega
        have zh : (ij : Int) / 2 = (h : Int) := by omega
        obtain ⟨c1, _⟩ := H.out.cell (i := h) (by omega)
        obtain ⟨c2, _⟩ := H.out.cell (i := a) (by omega)
        have c1' : wr.cell? ⟨g, h, none⟩ = some (.float .f64 (co d h)) := by rw [HW.out]; exact c1
        have c2' : wr.cell? ⟨g, a, none⟩ = some (.float .f64 (co d a)) := by rw [HW.out]; exact c2
        obtain ⟨z, hz, HCC⟩ := C (co d h) (co d a) (HF.out h) (HF.out a)
        have HC := Lib.hid HCC
        have HZ := Lib.hid hz
        clear c1 c2 hz HCC
        by_cases hneg : z < 0
        · have dz : decide (z < 0) = true := decide_eq_true hneg
          have HNG := Lib.hid hneg
          clear hneg
          go_wp2
          go_quiet (first | (go_at_call 27; exact quiet_hands (HC.out _)))
          go_wp2
          go_roundg q
          case measure => omega
          case rel => exact ⟨h + 1, j, by go_num, rfl, by omega, by omega, hjh, by omega, fun p h1 h2 => by have e := HZ.out.1 HNG.out; have e2 := HS2.out p h h1 (by omega) (by omega); omega, HV2.out, k + nq, by rw [HW.out, World.drewN_drewN]⟩
        · have dz : decide (z < 0) = false := decide_eq_false hneg
          have HNG := Lib.hid hneg
          clear hneg
          go_wp2
          go_quiet (first | (go_at_call 27; exact quiet_hands (HC.out _)))
          go_wp2
          go_roundg q
          case measure => omega
          case rel => exact ⟨i, h, rfl, by first | rfl | go_num, hli, by omega, by omega, by omega, HV1.out, fun p h1 h2 => by have e : ¬ K (co d h) < K (co d a) := fun hh => absurd (HZ.out.2 hh) (by have := HNG.out; omega); have e2 := HS2.out h p (by omega) h1 h2; omega, k + nq, by rw [HW.out, World.drewN_drewN]⟩
    · obtain rfl : i = j := by omega
      have hltz : ¬ (i : Int) < (i : Int) := by omega
      have HO := Lib.hid (show Own wr base g n c d by rw [HW.out]; exact H.out)
      have HG := Lib.hid (show w.grownBy wr (some g) by rw [HW.out]; exact grown_drewN (grown_refl _ _) k)
      clear hq
      obtain ⟨i1, ei1⟩ : ∃ q, i - 1 = q := ⟨_, rfl⟩
      have zi : (i : Int) - 1 = (i1 : Int) := by omega
      go_wp2
      go_loopg [13] (i - m) (fun q s wx => ∃ t : Nat, s = .int .i64 ((a + t : Nat) : Int) ∧ t + q = i - m ∧ Own wx base g n c (Fl.lft d a t) ∧ w.grownBy wx (some g))
      case atStart => exact ⟨0, by first | rfl | (congr 1; done), by omega, HO.out, HG.out⟩
      case round =>
        obtain ⟨t, rfl, htq, ho, hg⟩ := hrel
        have HO2 := Lib.hid ho
        have HG2 := Lib.hid hg
        clear ho hg
        cases gk with
        | zero =>
          obtain ⟨kk, ek⟩ : ∃ q, a + t = q := ⟨_, rfl⟩
          rw [ek]
          have dz : decide ((kk : Int) < (i1 : Int)) = false := decide_eq_false (by omega)
          have dz2 : decide ((kk : Nat) < (i1 : Nat)) = false := decide_eq_false (by omega)
          have dz3 : decide ((kk : Nat) < (i1 : Nat)) = false := decide_eq_false (by omega)
          obtain rfl : t = i - m := by omega
          clear ek
          go_wp2
          refine bodyPost_ret (results_none rfl _ _ _) rfl ?_
          exact ⟨rfl, _, ⟨by have h := Fl.lft_sin (a := a) (b := b) (i := i) (d := d) (by rw [HN.out]; exact hbn) (by omega) (by omega) (by have h := HS2.out; rwa [HA.out] at h) (fun p h1 h2 => HV1.out p (by have := HA.out; omega) h2) HV2.out; rwa [← HA.out] at h, Fl.lft_pin (Nat.le_refl _) (by omega) (by rw [HN.out]; exact hbn)⟩, HO2.out, HG2.out⟩
        | succ q =>
          obtain ⟨kk, ek⟩ : ∃ q, a + t = q := ⟨_, rfl⟩
          obtain ⟨k1, e1⟩ : ∃ q, a + t + 1 = q := ⟨_, rfl⟩
          rw [ek]
          have dz : decide ((kk : Int) < (i1 : Int)) = true := decide_eq_true (by omega)
          have dz2 : decide ((kk : Nat) < (i1 : Nat)) = true := decide_eq_true (by omega)
          have dz3 : decide ((kk : Nat) < (i1 : Nat)) = true := decide_eq_true (by omega)
          have zk : (kk : Int) + 1 = (k1 : Int) := by omega
          have hne : kk ≠ k1 := by omega
          have bk : kk < n := by omega
          have bk1 : k1 < n := by omega
          obtain ⟨c1, f1⟩ := HO2.out.cell (i := kk) (by omega)
          obtain ⟨c2, f2⟩ := HO2.out.cell (i := k1) (by omega)
          obtain ⟨v1, hv1⟩ : ∃ v, co (Fl.lft d a t) kk = v := ⟨_, rfl⟩
          obtain ⟨v2, hv2⟩ : ∃ v, co (Fl.lft d a t) k1 = v := ⟨_, rfl⟩
          rw [hv1] at c1
          rw [hv2] at c2
          have HV := Lib.hid (And.intro hv1 hv2)
          have HE := Lib.hid (And.intro ek e1)
          have HTQ := Lib.hid htq
          clear hv1 hv2 htq
          go_wp2
          go_big_region
          all_goals go_wp2
          go_roundg q
          case measure => omega
          case rel =>
            have htq := HTQ.out
            refine ⟨t + 1, by go_num, by omega, ?_, grown_put (grown_put (grown_drewN HG2.out 1) _ _) _ _⟩
            unfold Fl.lft
            rw [show a + t + 1 = k1 from HE.out.2, show a + t = kk from HE.out.1]
            exact swap_own (HO2.out.drewN 1) HV.out.2 HV.out.1
set_option maxHeartbeats 3200000 in
set_option maxRecDepth 100000 in
theorem mrg_b (C : CmpOk) (a m b base g n c : Nat) (d : List Nat) (w : World) (ham : a < m) (hmb : m < b) (hbn : b ≤ n) (hn : n ≤ 65536) (h : Own w base g n c d) (hf : F64 d) (hs1 : SIn a m d) (hs2 : SIn m b d) (hA : m ≠ a + 1) (hB : b = m + 1) :
    Calls Try.prog 34 #[.slice (some ⟨g, 0, none⟩) n c, .int .i64 (a : Int), .int .i64 (m : Int), .int .i64 (b : Int), cmpv] w (Lves (fun d' => SIn a b d' ∧ PIn a b d d') base g n c w) := by
  have hst := fun W p m x => run_store Try.prog W p (.float .f64 x) m rfl
  have H := Lib.hid h
  have HF := Lib.hid hf
  have HN := Lib.hid h.len
  have HS1 := Lib.hid hs1
  have HS2 := Lib.hid hs2
  clear h hf hs1 hs2
  have zA : (((m : Int) - (a : Int)) == 1) = false := by simp; omega
  have zA' : decide ((m : Int) - (a : Int) = 1) = false := decide_eq_false (by omega)
  have zB : (b : Int) - (m : Int) = 1 := by omega
  have HB := Lib.hid hB
  clear hB hA
  go_enter Try.func34, Try.ntmps34
  go_wp2
  go_loopg [14, 15] (m - a) (fun q s1 s2 wx => ∃ i j : Nat, s1 = .int .i64 (i : Int) ∧ s2 = .int .i64 (j : Int) ∧ a ≤ i ∧ i ≤ j ∧ j ≤ m ∧ j ≤ i + q ∧ (∀ p, a ≤ p → p < i → K (co d p) ≤ K (co d m)) ∧ (∀ p, j ≤ p → p < m → K (co d m) < K (co d p)) ∧ ∃ k, wx = w.drewN k)
  case atStart => exact ⟨a, m, rfl, rfl, Nat.le_refl _, by omega, Nat.le_refl _, by omega, fun p h1 h2 => absurd h2 (by omega), fun p h1 h2 => absurd h2 (by omega), 0, rfl⟩
  case round =>
    obtain ⟨i, j, rfl, rfl, hli, hij, hjh, hq, hv1, hv2, k, hwk⟩ := hrel
    have HW := Lib.hid hwk
    have HV1 := Lib.hid hv1
    have HV2 := Lib.hid hv2
    clear hwk hv1 hv2
    by_cases hlt : i < j
    · have hltz : (i : Int) < (j : Int) := by omega
      cases gk with
      | zero => omega
      | succ q =>
        obtain ⟨h, eh⟩ : ∃ q, (i + j) / 2 = q := ⟨_, rfl⟩
        obtain ⟨ij, eij⟩ : ∃ q, i + j = q := ⟨_, rfl⟩
        have zij : (i : Int) + (j : Int) = (ij : Int) := by omega
        have zh : (ij : Int) / 2 = (h : Int) := by omega
        obtain ⟨c1, _⟩ := H.out.cell (i := m) (by omega)
        obtain ⟨c2, _⟩ := H.out.cell (i := h) (by omega)
        have c1' : wr.cell? ⟨g, m, none⟩ = some (.float .f64 (co d m)) := by rw [HW.out]; exact c1
        have c2' : wr.cell? ⟨g, h, none⟩ = some (.float .f64 (co d h)) := by rw [HW.out]; exact c2
        obtain ⟨z, hz, HCC⟩ := C (co d m) (co d h) (HF.out m) (HF.out h)
        have HC := Lib.hid HCC
        have HZ := Lib.hid hz
        clear c1 c2 hz HCC
        by_cases hneg : z < 0
        · have dz : decide (z < 0) = true := decide_eq_true hneg
          have HNG := Lib.hid hneg
          clear hneg
          go_wp2
          go_quiet (first | (go_at_call 27; exact quiet_hands (HC.out _)))
          go_wp2
          go_roundg q
          case measure => omega
          case rel => exact ⟨i, h, rfl, by first | rfl | go_num, hli, by omega, by omega, by omega, HV1.out, fun p h1 h2 => by have e := HZ.out.1 HNG.out; have e2 := HS1.out h p (by omega) h1 h2; omega, k + nq, by rw [HW.out, World.drewN_drewN]⟩
        · have dz : decide (z < 0) = false := decide_eq_false hneg
          have HNG := Lib.hid hneg
          clear hneg
          go_wp2
          go_quiet (first | (go_at_call 27; exact quiet_hands (HC.out _)))
          go_wp2
          go_roundg q
          case measure => omega
          case rel => exact ⟨h + 1, j, by go_num, rfl, by omega, by omega, hjh, by omega, fun p h1 h2 => by have e : ¬ K (co d m) < K (co d h) := fun hh => absurd (HZ.out.2 hh) (by have := HNG.out; omega); have e2 := HS1.out p h h1 (by omega) (by omega); omega, HV2.out, k + nq, by rw [HW.out, World.drewN_drewN]⟩
    · obtain rfl : i = j := by omega
      have hltz : ¬ (i : Int) < (i : Int) := by omega
      have HO := Lib.hid (show Own wr base g n c d by rw [HW.out]; exact H.out)
      have HG := Lib.hid (show w.grownBy wr (some g) by rw [HW.out]; exact grown_drewN (grown_refl _ _) k)
      clear hq
      go_wp2
      go_loopg [17] (m - i) (fun q s wx => ∃ t : Nat, s = .int .i64 ((m - t : Nat) : Int) ∧ t + q = m - i ∧ Own wx base g n c (Fl.rgt d m t) ∧ w.grownBy wx (some g))
      case atStart => exact ⟨0, by first | rfl | (congr 1; done), by omega, HO.out, HG.out⟩
      case round =>
        obtain ⟨t, rfl, htq, ho, hg⟩ := hrel
        have HO2 := Lib.hid ho
        have HG2 := Lib.hid hg
        clear ho hg
        cases gk with
        | zero =>
          obtain ⟨kk, ek⟩ : ∃ q, m - t = q := ⟨_, rfl⟩
          rw [ek]
          have dz : decide ((kk : Int) > (i : Int)) = false := decide_eq_false (by omega)
          have dz2 : decide ((kk : Nat) > (i : Nat)) = false := decide_eq_false (by omega)
          have dz3 : decide ((i : Nat) < (kk : Nat)) = false := decide_eq_false (by omega)
          obtain rfl : t = m - i := by omega
          clear ek
          go_wp2
          refine bodyPost_ret (results_none rfl _ _ _) rfl ?_
          exact ⟨rfl, _, ⟨by have h := Fl.rgt_sin (a := a) (m := m) (i := i) (d := d) (by rw [HN.out]; omega) (by omega) (by omega) HS1.out HV1.out HV2.out; rwa [← HB.out] at h, Fl.rgt_pin (by omega) (by omega) (by rw [HN.out]; exact hbn)⟩, HO2.out, HG2.out⟩
        | succ q =>
          obtain ⟨kk, ek⟩ : ∃ q, m - t = q := ⟨_, rfl⟩
          obtain ⟨k1, e1⟩ : ∃ q, m - t - 1 = q := ⟨_, rfl⟩
          rw [ek]
          have dz : decide ((kk : Int) > (i : Int)) = true := decide_eq_true (by omega)
          have dz2 : decide ((kk : Nat) > (i : Nat)) = true := decide_eq_true (by omega)
          have dz3 : decide ((i : Nat) < (kk : Nat)) = true := decide_eq_true (by omega)
          have zk : (kk : Int) - 1 = (k1 : Int) := by omega
          have hne : kk ≠ k1 := by omega
          have bk : kk < n := by omega
          have bk1 : k1 < n := by omega
          obtain ⟨c1, f1⟩ := HO2.out.cell (i := kk) (by omega)
          obtain ⟨c2, f2⟩ := HO2.out.cell (i := k1) (by omega)
          obtain ⟨v1, hv1⟩ : ∃ v, co (Fl.rgt d m t) kk = v := ⟨_, rfl⟩
          obtain ⟨v2, hv2⟩ : ∃ v, co (Fl.rgt d m t) k1 = v := ⟨_, rfl⟩
          rw [hv1] at c1
          rw [hv2] at c2
          have HV := Lib.hid (And.intro hv1 hv2)
          have HE := Lib.hid (And.intro ek e1)
          have HTQ := Lib.hid htq
          clear hv1 hv2 htq
          go_wp2
          go_big_region
          all_goals go_wp2
          go_roundg q
          case measure => omega
          case rel =>
            have htq := HTQ.out
            refine ⟨t + 1, by first | go_num | (congr 1; omega), by omega, ?_, grown_put (grown_put (grown_drewN HG2.out 1) _ _) _ _⟩
            unfold Fl.rgt
            rw [show m - t - 1 = k1 from HE.out.2, show m - t = kk from HE.out.1]
            exact swap_own (HO2.out.drewN 1) HV.out.2 HV.out.1
end Go.Proofs.Ytbgpgdbheajekaa

/-
  The library's symMerge: the third part, where the middle lies left of the border. Conditions: no more than 2^16 rates.
-/
namespace Go.Proofs.Ytbgpgdbheajekaa
open Go.RowKit
open Pol (co)
open Fl (K sw swr PIn SIn Rot Ins Cutp)

set_option maxHeartbeats 12800000 in
set_option maxRecDepth 100000 in
theorem mrg_c1 (C : CmpOk) (N : Nat) (IH : MrgS N) (a m b mid base g n c : Nat) (d : List Nat) (w : World) (ham : a < m) (hmb : m < b) (hbn : b ≤ n) (hn : n ≤ 65536) (h : Own w base g n c d) (hf : F64 d) (hs1 : SIn a m d) (hs2 : SIn m b d) (hN : b - a ≤ N + 1) (_hA : m ≠ a + 1) (hB : b ≠ m + 1) (hmd : (a + b) / 2 = mid) (hmid : mid < m) :
    Calls Try.prog 34 #[.slice (some ⟨g, 0, none⟩) n c, .int .i64 (a : Int), .int .i64 (m : Int), .int .i64 (b : Int), cmpv] w (Lves (fun d' => SIn a b d' ∧ PIn a b d d') base g n c w) := by
  have hst := fun W p m x => run_store Try.prog W p (.float .f64 x) m rfl
  have H := Lib.hid h
  have HF := Lib.hid hf
  have HN := Lib.hid h.len
  have HS1 := Lib.hid hs1
  have HS2 := Lib.hid hs2
  clear h hf hs1 hs2
  have zA : (((m : Int) - (a : Int)) == 1) = false := by simp; omega
  have zA' : decide ((m : Int) - (a : Int) = 1) = false := decide_eq_false (by omega)
  have zB : (((b : Int) - (m : Int)) == 1) = false := by simp; omega
  have zB' : decide ((b : Int) - (m : Int) = 1) = false := decide_eq_false (by omega)
  obtain ⟨ab, eab⟩ : ∃ q, a + b = q := ⟨_, rfl⟩
  have zab : (a : Int) + (b : Int) = (ab : Int) := by omega
  have zmid : (ab : Int) / 2 = (mid : Int) := by omega
  obtain ⟨nn, enn⟩ : ∃ q, mid + m = q := ⟨_, rfl⟩
  have znn : (mid : Int) + (m : Int) = (nn : Int) := by omega
  obtain ⟨pp, epp⟩ : ∃ q, nn - 1 = q := ⟨_, rfl⟩
  have zpp : (nn : Int) - 1 = (pp : Int) := by omega
  have hm2 : a < mid ∧ mid < b ∧ nn ≤ mid + m ∧ mid + m ≤ nn ∧ pp + 1 ≤ nn ∧ nn ≤ pp + 1 ∧ 2 * mid ≤ a + b ∧ a + b ≤ 2 * mid + 1 := by omega
  obtain ⟨lo, elo⟩ : ∃ q, nn - b = q := ⟨_, rfl⟩
  have zlo : (nn : Int) - (b : Int) = (lo : Int) := by omega
  have hlo : a ≤ lo ∧ lo + b ≤ nn ∧ nn ≤ lo + b ∧ lo ≤ mid := by omega
  have dm : decide ((mid : Int) < (m : Int)) = true := decide_eq_true (by omega)
  have dmn : decide (mid < m) = true := decide_eq_true (by omega)
  clear elo
  clear eab epp hmd hmid hB enn
  go_enter Try.func34, Try.ntmps34
  go_wp2
  go_loopg [20, 21] (mid - lo) (fun q s1 s2 wx => ∃ i j : Nat, s1 = .int .i64 (i : Int) ∧ s2 = .int .i64 (j : Int) ∧ lo ≤ i ∧ i ≤ j ∧ j ≤ mid ∧ j ≤ i + q ∧ (∀ p, lo ≤ p → p < i → K (co d p) ≤ K (co d (nn - 1 - p))) ∧ (∀ p, j ≤ p → p < mid → K (co d (nn - 1 - p)) < K (co d p)) ∧ ∃ k, wx = w.drewN k)
  case atStart => exact ⟨lo, mid, rfl, rfl, Nat.le_refl _, by omega, Nat.le_refl _, by omega, fun p h1 h2 => absurd h2 (by omega), fun p h1 h2 => absurd h2 (by omega), 0, rfl⟩
  case round =>
    obtain ⟨i, j, rfl, rfl, hli, hij, hjh, hq, hv1, hv2, k, hwk⟩ := hrel
    have HW := Lib.hid hwk
    have HV1 := Lib.hid hv1
    have HV2 := Lib.hid hv2
    clear hwk hv1 hv2
    by_cases hlt : i < j
    · have hltz : (i : Int) < (j : Int) := by omega
      cases gk with
      | zero => omega
      | succ q =>
        obtain ⟨h, eh⟩ : ∃ q, (i + j) / 2 = q := ⟨_, rfl⟩
        obtain ⟨ij, eij⟩ : ∃ q, i + j = q := ⟨_, rfl⟩
        have zij : (i : Int) + (j : Int) = (ij : Int) := by omega
        have zh : (ij : Int) / 2 = (h : Int) := by omega
        obtain ⟨pc, epc⟩ : ∃ q, pp - h = q := ⟨_, rfl⟩
        have zpc : (pp : Int) - (h : Int) = (pc : Int) := by omega
        have hpc : pc + h + 1 ≤ nn ∧ nn ≤ pc + h + 1 := by omega
        obtain ⟨c1, _⟩ := H.out.cell (i := pc) (by omega)
        obtain ⟨c2, _⟩ := H.out.cell (i := h) (by omega)
        have c1' : wr.cell? ⟨g, pc, none⟩ = some (.float .f64 (co d pc)) := by rw [HW.out]; exact c1
        have c2' : wr.cell? ⟨g, h, none⟩ = some (.float .f64 (co d h)) := by rw [HW.out]; exact c2
        obtain ⟨z, hz, HCC⟩ := C (co d pc) (co d h) (HF.out pc) (HF.out h)
        have HC := Lib.hid HCC
        have HZ := Lib.hid hz
        clear c1 c2 hz HCC
        by_cases hneg : z < 0
        · have dz : decide (z < 0) = true := decide_eq_true hneg
          have HNG := Lib.hid hneg
          clear hneg
          go_wp2
          go_quiet (first | (go_at_call 27; exact quiet_hands (HC.out _)))
          go_wp2
          go_roundg q
          case measure => omega
          case rel => exact ⟨i, h, rfl, by first | rfl | go_num, hli, by omega, by omega, by omega, HV1.out, fun p h1 h2 => by have e := HZ.out.1 HNG.out; have e2 := HS1.out h p (by omega) h1 (by omega); have e3 := HS2.out (nn - 1 - p) pc (by omega) (by omega) (by omega); omega, k + nq, by rw [HW.out, World.drewN_drewN]⟩
        · have dz : decide (z < 0) = false := decide_eq_false hneg
          have HNG := Lib.hid hneg
          clear hneg
          go_wp2
          go_quiet (first | (go_at_call 27; exact quiet_hands (HC.out _)))
          go_wp2
          go_roundg q
          case measure => omega
          case rel => exact ⟨h + 1, j, by go_num, rfl, by omega, by omega, hjh, by omega, fun p h1 h2 => by have e : ¬ K (co d pc) < K (co d h) := fun hh => absurd (HZ.out.2 hh) (by have := HNG.out; omega); have e2 := HS1.out p h (by omega) (by omega) (by omega); have e3 := HS2.out pc (nn - 1 - p) (by omega) (by omega) (by omega); omega, HV2.out, k + nq, by rw [HW.out, World.drewN_drewN]⟩
    · obtain rfl : i = j := by omega
      have hltz : ¬ (i : Int) < (i : Int) := by omega
      have HO := Lib.hid (show Own wr base g n c d by rw [HW.out]; exact H.out)
      have HG := Lib.hid (show w.grownBy wr (some g) by rw [HW.out]; exact grown_drewN (grown_refl _ _) k)
      clear hq
      have HCUT := Lib.hid (show Cutp a m b mid i d from ⟨by omega, by omega, by omega, by omega, fun h1 h2 => by
          have h := HV1.out (i - 1) (by omega) (by omega)
          rwa [show nn - 1 - (i - 1) = mid + m - i by omega] at h, fun h1 h2 => by
          have h := HV2.out i (Nat.le_refl _) (by omega)
          rwa [show nn - 1 - i = mid + m - i - 1 by omega] at h⟩)
      obtain ⟨en, een⟩ : ∃ q, mid + m - i = q := ⟨_, rfl⟩
      have zen : (nn : Int) - (i : Int) = (en : Int) := by omega
      have EN := Lib.hid een
      have hem : m ≤ en ∧ mid ≤ en ∧ en ≤ b ∧ a ≤ i ∧ i ≤ m ∧ i ≤ mid ∧ en + i ≤ nn ∧ nn ≤ en + i := by omega
      clear een HV1 HV2 HW hli hjh hij
      rcases (show (i < m ∧ m < en) ∨ (i < m ∧ ¬ m < en) ∨ ¬ i < m by omega) with ⟨t1, t2⟩ | ⟨t1, t2⟩ | t1
      · have f1 : decide ((i : Int) < (m : Int)) = true := decide_eq_true (by omega)
        have f1n : decide (i < m) = true := decide_eq_true (by omega)
        have f2 : decide ((m : Int) < (en : Int)) = true := decide_eq_true (by omega)
        have f2n : decide (m < en) = true := decide_eq_true (by omega)
        have HCALL := Lib.hid (st_rot base g n c i m en cmpv d wr HO.out t1 t2 (by omega) hn)
        go_wp2_with fail
        refine HCALL.out.mono ?_
        rintro e w1 ⟨rfl, d1, ⟨hr1, hp1⟩, ho1, hg1⟩
        rw [← EN.out] at hr1
        have HROT := Lib.hid hr1
        have HP1 := Lib.hid (show PIn a b d d1 from hp1.mono (by omega) (by omega))
        have HO1 := Lib.hid ho1
        have HG1 := Lib.hid (grown_trans HG.out hg1)
        clear hr1 hp1 ho1 hg1
        obtain ⟨q1, q2, q3, q4, q5⟩ := HCUT.out.parts ham hmb HS1.out HS2.out HROT.out
        rw [EN.out] at q3 q4
        have HA1 := Lib.hid q1
        have HB1 := Lib.hid q2
        have HC3 := Lib.hid q3
        have HD3 := Lib.hid q4
        have HCR := Lib.hid q5
        clear q1 q2 q3 q4 q5
        rcases (show (a < i ∧ i < mid) ∨ (a < i ∧ ¬ i < mid) ∨ ¬ a < i by omega) with ⟨l1, l2⟩ | ⟨l1, l2⟩ | l1
        · have g1 : decide ((a : Int) < (i : Int)) = true := decide_eq_true (by omega)
          have g1n : decide (a < i) = true := decide_eq_true (by omega)
          have g2 : decide ((i : Int) < (mid : Int)) = true := decide_eq_true (by omega)
          have g2n : decide (i < mid) = true := decide_eq_true (by omega)
          have HCALL := Lib.hid (IH a i mid base g n c d1 w1 (by omega) l1 l2 (by omega) hn HO1.out (perm_f64 HF.out HP1.out.perm) HA1.out HB1.out)
          go_wp2_with fail
          refine HCALL.out.mono ?_
          rintro e w2 ⟨rfl, d2, ⟨hs2, hp2⟩, ho2, hg2⟩
          have HA3 := Lib.hid hs2
          have HP2 := Lib.hid hp2
          have HO2 := Lib.hid ho2
          have HG2 := Lib.hid (grown_trans HG1.out hg2)
          clear hs2 hp2 ho2 hg2
          rcases (show (mid < en ∧ en < b) ∨ (mid < en ∧ ¬ en < b) ∨ ¬ mid < en by omega) with ⟨r1, r2⟩ | ⟨r1, r2⟩ | r1
          · have e1 : decide ((mid : Int) < (en : Int)) = true := decide_eq_true (by omega)
            have e1n : decide (mid < en) = true := decide_eq_true (by omega)
            have e2 : decide ((en : Int) < (b : Int)) = true := decide_eq_true (by omega)
            have e2n : decide (en < b) = true := decide_eq_true (by omega)
            have HCALL := Lib.hid (IH mid en b base g n c d2 w2 (by omega) r1 r2 hbn hn HO2.out (perm_f64 HF.out (HP2.out.perm.trans HP1.out.perm)) (HC3.out.keep HP2.out (.inr (Nat.le_refl _))) (HD3.out.keep HP2.out (.inr (by omega))))
            go_wp2_with fail
            refine HCALL.out.mono ?_
            rintro e w3 ⟨rfl, d3, ⟨hs3, hp3⟩, ho3, hg3⟩
            have HB3 := Lib.hid hs3
            have HP3 := Lib.hid hp3
            have HO3 := Lib.hid ho3
            have HG3 := Lib.hid (grown_trans HG2.out hg3)
            clear hs3 hp3 ho3 hg3
            go_wp2
            go_end0
            exact ⟨rfl, d3, ⟨SIn.join (HA3.out.keep HP3.out (.inl (Nat.le_refl _))) HB3.out (Fl.cross_keep HP2.out HP3.out HCR.out), (HP1.out.trans (HP2.out.mono (Nat.le_refl _) (by omega))).trans (HP3.out.mono (by omega) (Nat.le_refl _))⟩, HO3.out, HG3.out⟩
          · have e1 : decide ((mid : Int) < (en : Int)) = true := decide_eq_true (by omega)
            have e1n : decide (mid < en) = true := decide_eq_true (by omega)
            have e2 : decide ((en : Int) < (b : Int)) = false := decide_eq_false (by omega)
            have e2n : decide (en < b) = false := decide_eq_false (by omega)
            have HB3 := Lib.hid (show SIn mid b d2 from (HC3.out.keep HP2.out (.inr (Nat.le_refl _))).sub (Nat.le_refl _) (by omega))
            have HP3 := Lib.hid (PIn.refl mid b d2)
            have HO3 := HO2
            have HG3 := HG2
            go_wp2
            go_end0
            exact ⟨rfl, d2, ⟨SIn.join (HA3.out.keep HP3.out (.inl (Nat.le_refl _))) HB3.out (Fl.cross_keep HP2.out HP3.out HCR.out), (HP1.out.trans (HP2.out.mono (Nat.le_refl _) (by omega))).trans (HP3.out.mono (by omega) (Nat.le_refl _))⟩, HO3.out, HG3.out⟩
          · have e1 : decide ((mid : Int) < (en : Int)) = false := decide_eq_false (by omega)
            have e1n : decide (mid < en) = false := decide_eq_false (by omega)
            have HB3 := Lib.hid (show SIn mid b d2 from (HD3.out.keep HP2.out (.inr (by omega))).sub (by omega) (Nat.le_refl _))
            have HP3 := Lib.hid (PIn.refl mid b d2)
            have HO3 := HO2
            have HG3 := HG2
            go_wp2
            go_end0
            exact ⟨rfl, d2, ⟨SIn.join (HA3.out.keep HP3.out (.inl (Nat.le_refl _))) HB3.out (Fl.cross_keep HP2.out HP3.out HCR.out), (HP1.out.trans (HP2.out.mono (Nat.le_refl _) (by omega))).trans (HP3.out.mono (by omega) (Nat.le_refl _))⟩, HO3.out, HG3.out⟩
        · have g1 : decide ((a : Int) < (i : Int)) = true := decide_eq_true (by omega)
          have g1n : decide (a < i) = true := decide_eq_true (by omega)
          have g2 : decide ((i : Int) < (mid : Int)) = false := decide_eq_false (by omega)
          have g2n : decide (i < mid) = false := decide_eq_false (by omega)
          have HA3 := Lib.hid (show SIn a mid d1 from HA1.out.sub (Nat.le_refl _) (by omega))
          have HP2 := Lib.hid (PIn.refl a mid d1)
          have HO2 := HO1
          have HG2 := HG1
          rcases (show (mid < en ∧ en < b) ∨ (mid < en ∧ ¬ en < b) ∨ ¬ mid < en by omega) with ⟨r1, r2⟩ | ⟨r1, r2⟩ | r1
          · have e1 : decide ((mid : Int) < (en : Int)) = true := decide_eq_true (by omega)
            have e1n : decide (mid < en) = true := decide_eq_true (by omega)
            have e2 : decide ((en : Int) < (b : Int)) = true := decide_eq_true (by omega)
            have e2n : decide (en < b) = true := decide_eq_true (by omega)
            have HCALL := Lib.hid (IH mid en b base g n c d1 w1 (by omega) r1 r2 hbn hn HO2.out (perm_f64 HF.out (HP2.out.perm.trans HP1.out.perm)) (HC3.out.keep HP2.out (.inr (Nat.le_refl _))) (HD3.out.keep HP2.out (.inr (by omega))))
            go_wp2_with fail
            refine HCALL.out.mono ?_
            rintro e w3 ⟨rfl, d3, ⟨hs3, hp3⟩, ho3, hg3⟩
            have HB3 := Lib.hid hs3
            have HP3 := Lib.hid hp3
            have HO3 := Lib.hid ho3
            have HG3 := Lib.hid (grown_trans HG2.out hg3)
            clear hs3 hp3 ho3 hg3
            go_wp2
            go_end0
            exact ⟨rfl, d3, ⟨SIn.join (HA3.out.keep HP3.out (.inl (Nat.le_refl _))) HB3.out (Fl.cross_keep HP2.out HP3.out HCR.out), (HP1.out.trans (HP2.out.mono (Nat.le_refl _) (by omega))).trans (HP3.out.mono (by omega) (Nat.le_refl _))⟩, HO3.out, HG3.out⟩
          · have e1 : decide ((mid : Int) < (en : Int)) = true := decide_eq_true (by omega)
            have e1n : decide (mid < en) = true := decide_eq_true (by omega)
            have e2 : decide ((en : Int) < (b : Int)) = false := decide_eq_false (by omega)
            have e2n : decide (en < b) = false := decide_eq_false (by omega)
            have HB3 := Lib.hid (show SIn mid b d1 from (HC3.out.keep HP2.out (.inr (Nat.le_refl _))).sub (Nat.le_refl _) (by omega))
            have HP3 := Lib.hid (PIn.refl mid b d1)
            have HO3 := HO2
            have HG3 := HG2
            go_wp2
            go_end0
            exact ⟨rfl, d1, ⟨SIn.join (HA3.out.keep HP3.out (.inl (Nat.le_refl _))) HB3.out (Fl.cross_keep HP2.out HP3.out HCR.out), (HP1.out.trans (HP2.out.mono (Nat.le_refl _) (by omega))).trans (HP3.out.mono (by omega) (Nat.le_refl _))⟩, HO3.out, HG3.out⟩
          · have e1 : decide ((mid : Int) < (en : Int)) = false := decide_eq_false (by omega)
            have e1n : decide (mid < en) = false := decide_eq_false (by omega)
            have HB3 := Lib.hid (show SIn mid b d1 from (HD3.out.keep HP2.out (.inr (by omega))).sub (by omega) (Nat.le_refl _))
            have HP3 := Lib.hid (PIn.refl mid b d1)
            have HO3 := HO2
            have HG3 := HG2
            go_wp2
            go_end0
            exact ⟨rfl, d1, ⟨SIn.join (HA3.out.keep HP3.out (.inl (Nat.le_refl _))) HB3.out (Fl.cross_keep HP2.out HP3.out HCR.out), (HP1.out.trans (HP2.out.mono (Nat.le_refl _) (by omega))).trans (HP3.out.mono (by omega) (Nat.le_refl _))⟩, HO3.out, HG3.out⟩
        · have g1 : decide ((a : Int) < (i : Int)) = false := decide_eq_false (by omega)
          have g1n : decide (a < i) = false := decide_eq_false (by omega)
          have HA3 := Lib.hid (show SIn a mid d1 from HB1.out.sub (by omega) (Nat.le_refl _))
          have HP2 := Lib.hid (PIn.refl a mid d1)
          have HO2 := HO1
          have HG2 := HG1
          rcases (show (mid < en ∧ en < b) ∨ (mid < en ∧ ¬ en < b) ∨ ¬ mid < en by omega) with ⟨r1, r2⟩ | ⟨r1, r2⟩ | r1
          · have e1 : decide ((mid : Int) < (en : Int)) = true := decide_eq_true (by omega)
            have e1n : decide (mid < en) = true := decide_eq_true (by omega)
            have e2 : decide ((en : Int) < (b : Int)) = true := decide_eq_true (by omega)
            have e2n : decide (en < b) = true := decide_eq_true (by omega)
            have HCALL := Lib.hid (IH mid en b base g n c d1 w1 (by omega) r1 r2 hbn hn HO2.out (perm_f64 HF.out (HP2.out.perm.trans HP1.out.perm)) (HC3.out.keep HP2.out (.inr (Nat.le_refl _))) (HD3.out.keep HP2.out (.inr (by omega))))
            go_wp2_with fail
            refine HCALL.out.mono ?_
            rintro e w3 ⟨rfl, d3, ⟨hs3, hp3⟩, ho3, hg3⟩
            have HB3 := Lib.hid hs3
            have HP3 := Lib.hid hp3
            have HO3 := Lib.hid ho3
            have HG3 := Lib.hid (grown_trans HG2.out hg3)
            clear hs3 hp3 ho3 hg3
            go_wp2
            go_end0
            exact ⟨rfl, d3, ⟨SIn.join (HA3.out.keep HP3.out (.inl (Nat.le_refl _))) HB3.out (Fl.cross_keep HP2.out HP3.out HCR.out), (HP1.out.trans (HP2.out.mono (Nat.le_refl _) (by omega))).trans (HP3.out.mono (by omega) (Nat.le_refl _))⟩, HO3.out, HG3.out⟩
          · have e1 : decide ((mid : Int) < (en : Int)) = true := decide_eq_true (by omega)
            have e1n : decide (mid < en) = true := decide_eq_true (by omega)
            have e2 : decide ((en : Int) < (b : Int)) = false := decide_eq_false (by omega)
            have e2n : decide (en < b) = false := decide_eq_false (by omega)
            have HB3 := Lib.hid (show SIn mid b d1 from (HC3.out.keep HP2.out (.inr (Nat.le_refl _))).sub (Nat.le_refl _) (by omega))
            have HP3 := Lib.hid (PIn.refl mid b d1)
            have HO3 := HO2
            have HG3 := HG2
            go_wp2
            go_end0
            exact ⟨rfl, d1, ⟨SIn.join (HA3.out.keep HP3.out (.inl (Nat.le_refl _))) HB3.out (Fl.cross_keep HP2.out HP3.out HCR.out), (HP1.out.trans (HP2.out.mono (Nat.le_refl _) (by omega))).trans (HP3.out.mono (by omega) (Nat.le_refl _))⟩, HO3.out, HG3.out⟩
          · have e1 : decide ((mid : Int) < (en : Int)) = false := decide_eq_false (by omega)
            have e1n : decide (mid < en) = false := decide_eq_false (by omega)
            have HB3 := Lib.hid (show SIn mid b d1 from (HD3.out.keep HP2.out (.inr (by omega))).sub (by omega) (Nat.le_refl _))
            have HP3 := Lib.hid (PIn.refl mid b d1)
            have HO3 := HO2
            have HG3 := HG2
            go_wp2
            go_end0
            exact ⟨rfl, d1, ⟨SIn.join (HA3.out.keep HP3.out (.inl (Nat.le_refl _))) HB3.out (Fl.cross_keep HP2.out HP3.out HCR.out), (HP1.out.trans (HP2.out.mono (Nat.le_refl _) (by omega))).trans (HP3.out.mono (by omega) (Nat.le_refl _))⟩, HO3.out, HG3.out⟩
      · have f1 : decide ((i : Int) < (m : Int)) = true := decide_eq_true (by omega)
        have f1n : decide (i < m) = true := decide_eq_true (by omega)
        have f2 : decide ((m : Int) < (en : Int)) = false := decide_eq_false (by omega)
        have f2n : decide (m < en) = false := decide_eq_false (by omega)
        have HROT := Lib.hid (show Rot i m (mid + m - i) d d from Fl.Rot.none d (.inr (by have := EN.out; omega)) (by omega) (by have := EN.out; omega))
        have HP1 := Lib.hid (PIn.refl a b d)
        have HO1 := HO
        have HG1 := HG
        obtain ⟨q1, q2, q3, q4, q5⟩ := HCUT.out.parts ham hmb HS1.out HS2.out HROT.out
        rw [EN.out] at q3 q4
        have HA1 := Lib.hid q1
        have HB1 := Lib.hid q2
        have HC3 := Lib.hid q3
        have HD3 := Lib.hid q4
        have HCR := Lib.hid q5
        clear q1 q2 q3 q4 q5
        rcases (show (a < i ∧ i < mid) ∨ (a < i ∧ ¬ i < mid) ∨ ¬ a < i by omega) with ⟨l1, l2⟩ | ⟨l1, l2⟩ | l1
        · have g1 : decide ((a : Int) < (i : Int)) = true := decide_eq_true (by omega)
          have g1n : decide (a < i) = true := decide_eq_true (by omega)
          have g2 : decide ((i : Int) < (mid : Int)) = true := decide_eq_true (by omega)
          have g2n : decide (i < mid) = true := decide_eq_true (by omega)
          have HCALL := Lib.hid (IH a i mid base g n c d wr (by omega) l1 l2 (by omega) hn HO1.out (perm_f64 HF.out HP1.out.perm) HA1.out HB1.out)
          go_wp2_with fail
          refine HCALL.out.mono ?_
          rintro e w2 ⟨rfl, d2, ⟨hs2, hp2⟩, ho2, hg2⟩
          have HA3 := Lib.hid hs2
          have HP2 := Lib.hid hp2
          have HO2 := Lib.hid ho2
          have HG2 := Lib.hid (grown_trans HG1.out hg2)
          clear hs2 hp2 ho2 hg2
          rcases (show (mid < en ∧ en < b) ∨ (mid < en ∧ ¬ en < b) ∨ ¬ mid < en by omega) with ⟨r1, r2⟩ | ⟨r1, r2⟩ | r1
          · have e1 : decide ((mid : Int) < (en : Int)) = true := decide_eq_true (by omega)
            have e1n : decide (mid < en) = true := decide_eq_true (by omega)
            have e2 : decide ((en : Int) < (b : Int)) = true := decide_eq_true (by omega)
            have e2n : decide (en < b) = true := decide_eq_true (by omega)
            have HCALL := Lib.hid (IH mid en b base g n c d2 w2 (by omega) r1 r2 hbn hn HO2.out (perm_f64 HF.out (HP2.out.perm.trans HP1.out.perm)) (HC3.out.keep HP2.out (.inr (Nat.le_refl _))) (HD3.out.keep HP2.out (.inr (by omega))))
            go_wp2_with fail
            refine HCALL.out.mono ?_
            rintro e w3 ⟨rfl, d3, ⟨hs3, hp3⟩, ho3, hg3⟩
            have HB3 := Lib.hid hs3
            have HP3 := Lib.hid hp3
            have HO3 := Lib.hid ho3
            have HG3 := Lib.hid (grown_trans HG2.out hg3)
            clear hs3 hp3 ho3 hg3
            go_wp2
            go_end0
            exact ⟨rfl, d3, ⟨SIn.join (HA3.out.keep HP3.out (.inl (Nat.le_refl _))) HB3.out (Fl.cross_keep HP2.out HP3.out HCR.out), (HP1.out.trans (HP2.out.mono (Nat.le_refl _) (by omega))).trans (HP3.out.mono (by omega) (Nat.le_refl _))⟩, HO3.out, HG3.out⟩
          · have e1 : decide ((mid : Int) < (en : Int)) = true := decide_eq_true (by omega)
            have e1n : decide (mid < en) = true := decide_eq_true (by omega)
            have e2 : decide ((en : Int) < (b : Int)) = false := decide_eq_false (by omega)
            have e2n : decide (en < b) = false := decide_eq_false (by omega)
            have HB3 := Lib.hid (show SIn mid b d2 from (HC3.out.keep HP2.out (.inr (Nat.le_refl _))).sub (Nat.le_refl _) (by omega))
            have HP3 := Lib.hid (PIn.refl mid b d2)
            have HO3 := HO2
            have HG3 := HG2
            go_wp2
            go_end0
            exact ⟨rfl, d2, ⟨SIn.join (HA3.out.keep HP3.out (.inl (Nat.le_refl _))) HB3.out (Fl.cross_keep HP2.out HP3.out HCR.out), (HP1.out.trans (HP2.out.mono (Nat.le_refl _) (by omega))).trans (HP3.out.mono (by omega) (Nat.le_refl _))⟩, HO3.out, HG3.out⟩
          · have e1 : decide ((mid : Int) < (en : Int)) = false := decide_eq_false (by omega)
            have e1n : decide (mid < en) = false := decide_eq_false (by omega)
            have HB3 := Lib.hid (show SIn mid b d2 from (HD3.out.keep HP2.out (.inr (by omega))).sub (by omega) (Nat.le_refl _))
            have HP3 := Lib.hid (PIn.refl mid b d2)
            have HO3 := HO2
            have HG3 := HG2
            go_wp2
            go_end0
            exact ⟨rfl, d2, ⟨SIn.join (HA3.out.keep HP3.out (.inl (Nat.le_refl _))) HB3.out (Fl.cross_keep HP2.out HP3.out HCR.out), (HP1.out.trans (HP2.out.mono (Nat.le_refl _) (by omega))).trans (HP3.out.mono (by omega) (Nat.le_refl _))⟩, HO3.out, HG3.out⟩
        · have g1 : decide ((a : Int) < (i : Int)) = true := decide_eq_true (by omega)
          have g1n : decide (a < i) = true := decide_eq_true (by omega)
          have g2 : decide ((i : Int) < (mid : Int)) = false := decide_eq_false (by omega)
          have g2n : decide (i < mid) = false := decide_eq_false (by omega)
          have HA3 := Lib.hid (show SIn a mid d from HA1.out.sub (Nat.le_refl _) (by omega))
          have HP2 := Lib.hid (PIn.refl a mid d)
          have HO2 := HO1
          have HG2 := HG1
          rcases (show (mid < en ∧ en < b) ∨ (mid < en ∧ ¬ en < b) ∨ ¬ mid < en by omega) with ⟨r1, r2⟩ | ⟨r1, r2⟩ | r1
          · have e1 : decide ((mid : Int) < (en : Int)) = true := decide_eq_true (by omega)
            have e1n : decide (mid < en) = true := decide_eq_true (by omega)
            have e2 : decide ((en : Int) < (b : Int)) = true := decide_eq_true (by omega)
            have e2n : decide (en < b) = true := decide_eq_true (by omega)
            have HCALL := Lib.hid (IH mid en b base g n c d wr (by omega) r1 r2 hbn hn HO2.out (perm_f64 HF.out (HP2.out.perm.trans HP1.out.perm)) (HC3.out.keep HP2.out (.inr (Nat.le_refl _))) (HD3.out.keep HP2.out (.inr (by omega))))
            go_wp2_with fail
            refine HCALL.out.mono ?_
            rintro e w3 ⟨rfl, d3, ⟨hs3, hp3⟩, ho3, hg3⟩
            have HB3 := Lib.hid hs3
            have HP3 := Lib.hid hp3
            have HO3 := Lib.hid ho3
            have HG3 := Lib.hid (grown_trans HG2.out hg3)
            clear hs3 hp3 ho3 hg3
            go_wp2
            go_end0
            exact ⟨rfl, d3, ⟨SIn.join (HA3.out.keep HP3.out (.inl (Nat.le_refl _))) HB3.out (Fl.cross_keep HP2.out HP3.out HCR.out), (HP1.out.trans (HP2.out.mono (Nat.le_refl _) (by omega))).trans (HP3.out.mono (by omega) (Nat.le_refl _))⟩, HO3.out, HG3.out⟩
          · have e1 : decide ((mid : Int) < (en : Int)) = true := decide_eq_true (by omega)
            have e1n : decide (mid < en) = true := decide_eq_true (by omega)
            have e2 : decide ((en : Int) < (b : Int)) = false := decide_eq_false (by omega)
            have e2n : decide (en < b) = false := decide_eq_false (by omega)
            have HB3 := Lib.hid (show SIn mid b d from (HC3.out.keep HP2.out (.inr (Nat.le_refl _))).sub (Nat.le_refl _) (by omega))
            have HP3 := Lib.hid (PIn.refl mid b d)
            have HO3 := HO2
            have HG3 := HG2
            go_wp2
            go_end0
            exact ⟨rfl, d, ⟨SIn.join (HA3.out.keep HP3.out (.inl (Nat.le_refl _))) HB3.out (Fl.cross_keep HP2.out HP3.out HCR.out), (HP1.out.trans (HP2.out.mono (Nat.le_refl _) (by omega))).trans (HP3.out.mono (by omega) (Nat.le_refl _))⟩, HO3.out, HG3.out⟩
          · have e1 : decide ((mid : Int) < (en : Int)) = false := decide_eq_false (by omega)
            have e1n : decide (mid < en) = false := decide_eq_false (by omega)
            have HB3 := Lib.hid (show SIn mid b d from (HD3.out.keep HP2.out (.inr (by omega))).sub (by omega) (Nat.le_refl _))
            have HP3 := Lib.hid (PIn.refl mid b d)
            have HO3 := HO2
            have HG3 := HG2
            go_wp2
            go_end0
            exact ⟨rfl, d, ⟨SIn.join (HA3.out.keep HP3.out (.inl (Nat.le_refl _))) HB3.out (Fl.cross_keep HP2.out HP3.out HCR.out), (HP1.out.trans (HP2.out.mono (Nat.le_refl _) (by omega))).trans (HP3.out.mono (by omega) (Nat.le_refl _))⟩, HO3.out, HG3.out⟩
        · have g1 : decide ((a : Int) < (i : Int)) = false := decide_eq_false (by omega)
          have g1n : decide (a < i) = false := decide_eq_false (by omega)
          have HA3 := Lib.hid (show SIn a mid d from HB1.out.sub (by omega) (Nat.le_refl _))
          have HP2 := Lib.hid (PIn.refl a mid d)
          have HO2 := HO1
          have HG2 := HG1
          rcases (show (mid < en ∧ en < b) ∨ (mid < en ∧ ¬ en < b) ∨ ¬ mid < en by omega) with ⟨r1, r2⟩ | ⟨r1, r2⟩ | r1
          · have e1 : decide ((mid : Int) < (en : Int)) = true := decide_eq_true (by omega)
            have e1n : decide (mid < en) = true := decide_eq_true (by omega)
            have e2 : decide ((en : Int) < (b : Int)) = true := decide_eq_true (by omega)
            have e2n : decide (en < b) = true := decide_eq_true (by omega)
            have HCALL := Lib.hid (IH mid en b base g n c d wr (by omega) r1 r2 hbn hn HO2.out (perm_f64 HF.out (HP2.out.perm.trans HP1.out.perm)) (HC3.out.keep HP2.out (.inr (Nat.le_refl _))) (HD3.out.keep HP2.out (.inr (by omega))))
            go_wp2_with fail
            refine HCALL.out.mono ?_
            rintro e w3 ⟨rfl, d3, ⟨hs3, hp3⟩, ho3, hg3⟩
            have HB3 := Lib.hid hs3
            have HP3 := Lib.hid hp3
            have HO3 := Lib.hid ho3
            have HG3 := Lib.hid (grown_trans HG2.out hg3)
            clear hs3 hp3 ho3 hg3
            go_wp2
            go_end0
            exact ⟨rfl, d3, ⟨SIn.join (HA3.out.keep HP3.out (.inl (Nat.le_refl _))) HB3.out (Fl.cross_keep HP2.out HP3.out HCR.out), (HP1.out.trans (HP2.out.mono (Nat.le_refl _) (by omega))).trans (HP3.out.mono (by omega) (Nat.le_refl _))⟩, HO3.out, HG3.out⟩
          · have e1 : decide ((mid : Int) < (en : Int)) = true := decide_eq_true (by omega)
            have e1n : decide (mid < en) = true := decide_eq_true (by omega)
            have e2 : decide ((en : Int) < (b : Int)) = false := decide_eq_false (by omega)
            have e2n : decide (en < b) = false := decide_eq_false (by omega)
            have HB3 := Lib.hid (show SIn mid b d from (HC3.out.keep HP2.out (.inr (Nat.le_refl _))).sub (Nat.le_refl _) (by omega))
            have HP3 := Lib.hid (PIn.refl mid b d)
            have HO3 := HO2
            have HG3 := HG2
            go_wp2
            go_end0
            exact ⟨rfl, d, ⟨SIn.join (HA3.out.keep HP3.out (.inl (Nat.le_refl _))) HB3.out (Fl.cross_keep HP2.out HP3.out HCR.out), (HP1.out.trans (HP2.out.mono (Nat.le_refl _) (by omega))).trans (HP3.out.mono (by omega) (Nat.le_refl _))⟩, HO3.out, HG3.out⟩
          · have e1 : decide ((mid : Int) < (en : Int)) = false := decide_eq_false (by omega)
            have e1n : decide (mid < en) = false := decide_eq_false (by omega)
            have HB3 := Lib.hid (show SIn mid b d from (HD3.out.keep HP2.out (.inr (by omega))).sub (by omega) (Nat.le_refl _))
            have HP3 := Lib.hid (PIn.refl mid b d)
            have HO3 := HO2
            have HG3 := HG2
            go_wp2
            go_end0
            exact ⟨rfl, d, ⟨SIn.join (HA3.out.keep HP3.out (.inl (Nat.le_refl _))) HB3.out (Fl.cross_keep HP2.out HP3.out HCR.out), (HP1.out.trans (HP2.out.mono (Nat.le_refl _) (by omega))).trans (HP3.out.mono (by omega) (Nat.le_refl _))⟩, HO3.out, HG3.out⟩
      · have f1 : decide ((i : Int) < (m : Int)) = false := decide_eq_false (by omega)
        have f1n : decide (i < m) = false := decide_eq_false (by omega)
        have HROT := Lib.hid (show Rot i m (mid + m - i) d d from Fl.Rot.none d (.inl (by omega)) (by omega) (by have := EN.out; omega))
        have HP1 := Lib.hid (PIn.refl a b d)
        have HO1 := HO
        have HG1 := HG
        obtain ⟨q1, q2, q3, q4, q5⟩ := HCUT.out.parts ham hmb HS1.out HS2.out HROT.out
        rw [EN.out] at q3 q4
        have HA1 := Lib.hid q1
        have HB1 := Lib.hid q2
        have HC3 := Lib.hid q3
        have HD3 := Lib.hid q4
        have HCR := Lib.hid q5
        clear q1 q2 q3 q4 q5
        rcases (show (a < i ∧ i < mid) ∨ (a < i ∧ ¬ i < mid) ∨ ¬ a < i by omega) with ⟨l1, l2⟩ | ⟨l1, l2⟩ | l1
        · have g1 : decide ((a : Int) < (i : Int)) = true := decide_eq_true (by omega)
          have g1n : decide (a < i) = true := decide_eq_true (by omega)
          have g2 : decide ((i : Int) < (mid : Int)) = true := decide_eq_true (by omega)
          have g2n : decide (i < mid) = true := decide_eq_true (by omega)
          have HCALL := Lib.hid (IH a i mid base g n c d wr (by omega) l1 l2 (by omega) hn HO1.out (perm_f64 HF.out HP1.out.perm) HA1.out HB1.out)
          go_wp2_with fail
          refine HCALL.out.mono ?_
          rintro e w2 ⟨rfl, d2, ⟨hs2, hp2⟩, ho2, hg2⟩
          have HA3 := Lib.hid hs2
          have HP2 := Lib.hid hp2
          have HO2 := Lib.hid ho2
          have HG2 := Lib.hid (grown_trans HG1.out hg2)
          clear hs2 hp2 ho2 hg2
          rcases (show (mid < en ∧ en < b) ∨ (mid < en ∧ ¬ en < b) ∨ ¬ mid < en by omega) with ⟨r1, r2⟩ | ⟨r1, r2⟩ | r1
          · have e1 : decide ((mid : Int) < (en : Int)) = true := decide_eq_true (by omega)
            have e1n : decide (mid < en) = true := decide_eq_true (by omega)
            have e2 : decide ((en : Int) < (b : Int)) = true := decide_eq_true (by omega)
            have e2n : decide (en < b) = true := decide_eq_true (by omega)
            have HCALL := Lib.hid (IH mid en b base g n c d2 w2 (by omega) r1 r2 hbn hn HO2.out (perm_f64 HF.out (HP2.out.perm.trans HP1.out.perm)) (HC3.out.keep HP2.out (.inr (Nat.le_refl _))) (HD3.out.keep HP2.out (.inr (by omega))))
            go_wp2_with fail
            refine HCALL.out.mono ?_
            rintro e w3 ⟨rfl, d3, ⟨hs3, hp3⟩, ho3, hg3⟩
            have HB3 := Lib.hid hs3
            have HP3 := Lib.hid hp3
            have HO3 := Lib.hid ho3
            have HG3 := Lib.hid (grown_trans HG2.out hg3)
            clear hs3 hp3 ho3 hg3
            go_wp2
            go_end0
            exact ⟨rfl, d3, ⟨SIn.join (HA3.out.keep HP3.out (.inl (Nat.le_refl _))) HB3.out (Fl.cross_keep HP2.out HP3.out HCR.out), (HP1.out.trans (HP2.out.mono (Nat.le_refl _) (by omega))).trans (HP3.out.mono (by omega) (Nat.le_refl _))⟩, HO3.out, HG3.out⟩
          · have e1 : decide ((mid : Int) < (en : Int)) = true := decide_eq_true (by omega)
            have e1n : decide (mid < en) = true := decide_eq_true (by omega)
            have e2 : decide ((en : Int) < (b : Int)) = false := decide_eq_false (by omega)
            have e2n : decide (en < b) = false := decide_eq_false (by omega)
            have HB3 := Lib.hid (show SIn mid b d2 from (HC3.out.keep HP2.out (.inr (Nat.le_refl _))).sub (Nat.le_refl _) (by omega))
            have HP3 := Lib.hid (PIn.refl mid b d2)
            have HO3 := HO2
            have HG3 := HG2
            go_wp2
            go_end0
            exact ⟨rfl, d2, ⟨SIn.join (HA3.out.keep HP3.out (.inl (Nat.le_refl _))) HB3.out (Fl.cross_keep HP2.out HP3.out HCR.out), (HP1.out.trans (HP2.out.mono (Nat.le_refl _) (by omega))).trans (HP3.out.mono (by omega) (Nat.le_refl _))⟩, HO3.out, HG3.out⟩
          · have e1 : decide ((mid : Int) < (en : Int)) = false := decide_eq_false (by omega)
            have e1n : decide (mid < en) = false := decide_eq_false (by omega)
            have HB3 := Lib.hid (show SIn mid b d2 from (HD3.out.keep HP2.out (.inr (by omega))).sub (by omega) (Nat.le_refl _))
            have HP3 := Lib.hid (PIn.refl mid b d2)
            have HO3 := HO2
            have HG3 := HG2
            go_wp2
            go_end0
            exact ⟨rfl, d2, ⟨SIn.join (HA3.out.keep HP3.out (.inl (Nat.le_refl _))) HB3.out (Fl.cross_keep HP2.out HP3.out HCR.out), (HP1.out.trans (HP2.out.mono (Nat.le_refl _) (by omega))).trans (HP3.out.mono (by omega) (Nat.le_refl _))⟩, HO3.out, HG3.out⟩
        · have g1 : decide ((a : Int) < (i : Int)) = true := decide_eq_true (by omega)
          have g1n : decide (a < i) = true := decide_eq_true (by omega)
          have g2 : decide ((i : Int) < (mid : Int)) = false := decide_eq_false (by omega)
          have g2n : decide (i < mid) = false := decide_eq_false (by omega)
          have HA3 := Lib.hid (show SIn a mid d from HA1.out.sub (Nat.le_refl _) (by omega))
          have HP2 := Lib.hid (PIn.refl a mid d)
          have HO2 := HO1
          have HG2 := HG1
          rcases (show (mid < en ∧ en < b) ∨ (mid < en ∧ ¬ en < b) ∨ ¬ mid < en by omega) with ⟨r1, r2⟩ | ⟨r1, r2⟩ | r1
          · have e1 : decide ((mid : Int) < (en : Int)) = true := decide_eq_true (by omega)
            have e1n : decide (mid < en) = true := decide_eq_true (by omega)
            have e2 : decide ((en : Int) < (b : Int)) = true := decide_eq_true (by omega)
            have e2n : decide (en < b) = true := decide_eq_true (by omega)
            have HCALL := Lib.hid (IH mid en b base g n c d wr (by omega) r1 r2 hbn hn HO2.out (perm_f64 HF.out (HP2.out.perm.trans HP1.out.perm)) (HC3.out.keep HP2.out (.inr (Nat.le_refl _))) (HD3.out.keep HP2.out (.inr (by omega))))
            go_wp2_with fail
            refine HCALL.out.mono ?_
            rintro e w3 ⟨rfl, d3, ⟨hs3, hp3⟩, ho3, hg3⟩
            have HB3 := Lib.hid hs3
            have HP3 := Lib.hid hp3
            have HO3 := Lib.hid ho3
            have HG3 := Lib.hid (grown_trans HG2.out hg3)
            clear hs3 hp3 ho3 hg3
            go_wp2
            go_end0
            exact ⟨rfl, d3, ⟨SIn.join (HA3.out.keep HP3.out (.inl (Nat.le_refl _))) HB3.out (Fl.cross_keep HP2.out HP3.out HCR.out), (HP1.out.trans (HP2.out.mono (Nat.le_refl _) (by omega))).trans (HP3.out.mono (by omega) (Nat.le_refl _))⟩, HO3.out, HG3.out⟩
          · have e1 : decide ((mid : Int) < (en : Int)) = true := decide_eq_true (by omega)
            have e1n : decide (mid < en) = true := decide_eq_true (by omega)
            have e2 : decide ((en : Int) < (b : Int)) = false := decide_eq_false (by omega)
            have e2n : decide (en < b) = false := decide_eq_false (by omega)
            have HB3 := Lib.hid (show SIn mid b d from (HC3.out.keep HP2.out (.inr (Nat.le_refl _))).sub (Nat.le_refl _) (by omega))
            have HP3 := Lib.hid (PIn.refl mid b d)
            have HO3 := HO2
            have HG3 := HG2
            go_wp2
            go_end0
            exact ⟨rfl, d, ⟨SIn.join (HA3.out.keep HP3.out (.inl (Nat.le_refl _))) HB3.out (Fl.cross_keep HP2.out HP3.out HCR.out), (HP1.out.trans (HP2.out.mono (Nat.le_refl _) (by omega))).trans (HP3.out.mono (by omega) (Nat.le_refl _))⟩, HO3.out, HG3.out⟩
          · have e1 : decide ((mid : Int) < (en : Int)) = false := decide_eq_false (by omega)
            have e1n : decide (mid < en) = false := decide_eq_false (by omega)
            have HB3 := Lib.hid (show SIn mid b d from (HD3.out.keep HP2.out (.inr (by omega))).sub (by omega) (Nat.le_refl _))
            have HP3 := Lib.hid (PIn.refl mid b d)
            have HO3 := HO2
            have HG3 := HG2
            go_wp2
            go_end0
            exact ⟨rfl, d, ⟨SIn.join (HA3.out.keep HP3.out (.inl (Nat.le_refl _))) HB3.out (Fl.cross_keep HP2.out HP3.out HCR.out), (HP1.out.trans (HP2.out.mono (Nat.le_refl _) (by omega))).trans (HP3.out.mono (by omega) (Nat.le_refl _))⟩, HO3.out, HG3.out⟩
        · have g1 : decide ((a : Int) < (i : Int)) = false := decide_eq_false (by omega)
          have g1n : decide (a < i) = false := decide_eq_false (by omega)
          have HA3 := Lib.hid (show SIn a mid d from HB1.out.sub (by omega) (Nat.le_refl _))
          have HP2 := Lib.hid (PIn.refl a mid d)
          have HO2 := HO1
          have HG2 := HG1
          rcases (show (mid < en ∧ en < b) ∨ (mid < en ∧ ¬ en < b) ∨ ¬ mid < en by omega) with ⟨r1, r2⟩ | ⟨r1, r2⟩ | r1
          · have e1 : decide ((mid : Int) < (en : Int)) = true := decide_eq_true (by omega)
            have e1n : decide (mid < en) = true := decide_eq_true (by omega)
            have e2 : decide ((en : Int) < (b : Int)) = true := decide_eq_true (by omega)
            have e2n : decide (en < b) = true := decide_eq_true (by omega)
            have HCALL := Lib.hid (IH mid en b base g n c d wr (by omega) r1 r2 hbn hn HO2.out (perm_f64 HF.out (HP2.out.perm.trans HP1.out.perm)) (HC3.out.keep HP2.out (.inr (Nat.le_refl _))) (HD3.out.keep HP2.out (.inr (by omega))))
            go_wp2_with fail
            refine HCALL.out.mono ?_
            rintro e w3 ⟨rfl, d3, ⟨hs3, hp3⟩, ho3, hg3⟩
            have HB3 := Lib.hid hs3
            have HP3 := Lib.hid hp3
            have HO3 := Lib.hid ho3
            have HG3 := Lib.hid (grown_trans HG2.out hg3)
            clear hs3 hp3 ho3 hg3
            go_wp2
            go_end0
            exact ⟨rfl, d3, ⟨SIn.join (HA3.out.keep HP3.out (.inl (Nat.le_refl _))) HB3.out (Fl.cross_keep HP2.out HP3.out HCR.out), (HP1.out.trans (HP2.out.mono (Nat.le_refl _) (by omega))).trans (HP3.out.mono (by omega) (Nat.le_refl _))⟩, HO3.out, HG3.out⟩
          · have e1 : decide ((mid : Int) < (en : Int)) = true := decide_eq_true (by omega)
            have e1n : decide (mid < en) = true := decide_eq_true (by omega)
            have e2 : decide ((en : Int) < (b : Int)) = false := decide_eq_false (by omega)
            have e2n : decide (en < b) = false := decide_eq_false (by omega)
            have HB3 := Lib.hid (show SIn mid b d from (HC3.out.keep HP2.out (.inr (Nat.le_refl _))).sub (Nat.le_refl _) (by omega))
            have HP3 := Lib.hid (PIn.refl mid b d)
            have HO3 := HO2
            have HG3 := HG2
            go_wp2
            go_end0
            exact ⟨rfl, d, ⟨SIn.join (HA3.out.keep HP3.out (.inl (Nat.le_refl _))) HB3.out (Fl.cross_keep HP2.out HP3.out HCR.out), (HP1.out.trans (HP2.out.mono (Nat.le_refl _) (by omega))).trans (HP3.out.mono (by omega) (Nat.le_refl _))⟩, HO3.out, HG3.out⟩
          · have e1 : decide ((mid : Int) < (en : Int)) = false := decide_eq_false (by omega)
            have e1n : decide (mid < en) = false := decide_eq_false (by omega)
            have HB3 := Lib.hid (show SIn mid b d from (HD3.out.keep HP2.out (.inr (by omega))).sub (by omega) (Nat.le_refl _))
            have HP3 := Lib.hid (PIn.refl mid b d)
            have HO3 := HO2
            have HG3 := HG2
            go_wp2
            go_end0
            exact ⟨rfl, d, ⟨SIn.join (HA3.out.keep HP3.out (.inl (Nat.le_refl _))) HB3.out (Fl.cross_keep HP2.out HP3.out HCR.out), (HP1.out.trans (HP2.out.mono (Nat.le_refl _) (by omega))).trans (HP3.out.mono (by omega) (Nat.le_refl _))⟩, HO3.out, HG3.out⟩
end Go.Proofs.Ytbgpgdbheajekaa
