/-
  The polynomial through some points, made point by point: what has been made goes through the points so far, and what is 0 at just these places. Conditions: none.
-/
import Derived.Test.YtagdialceelggaaInt
namespace Pol
open Gf (mul quo)

/-- The polynomial through the first points, and what is 0 at their places. -/
def nw (l : List (Nat × Nat)) : Nat → List Nat × List Nat
  | 0 => ([], [1])
  | i + 1 => (trim (addP (nw l i).1 (trim (mulP (nw l i).2 [quo (py l i ^^^ ev (nw l i).1 (px l i)) (ev (nw l i).2 (px l i))]))), trim (mulP (nw l i).2 [px l i, 1]))
theorem ev_one (t x : Nat) : ev [t] x = t := by simp [ev, Gf.mul_zero]
theorem ev_line (p x : Nat) (hx : x < 256) : ev [p, 1] x = x ^^^ p := by
  simp only [ev, Gf.mul_zero, Nat.xor_zero, Gf.mul_one x hx]
  exact Nat.xor_comm _ _
theorem one_sm {t : Nat} (h : t < 256) : Sm [t] := Sm.cons h Sm.nil
theorem nw_sm (l : List (Nat × Nat)) : ∀ i, Sm (nw l i).1 ∧ Sm (nw l i).2
  | 0 => ⟨Sm.nil, one_sm (by omega)⟩
  | i + 1 => ⟨((nw_sm l i).1.add (Sm.mul _ _).trim).trim, (Sm.mul _ _).trim⟩
theorem nw_len (l : List (Nat × Nat)) : ∀ i, (nw l i).1.length ≤ i ∧ (nw l i).2.length ≤ i + 1
  | 0 => ⟨Nat.le_refl _, Nat.le_refl _⟩
  | i + 1 => by
    have h := nw_len l i
    refine ⟨trim_le _ _ fun j hj => ?_, trim_le _ _ fun j hj => mulP_len _ _ j (by simp; omega) (by simp)⟩
    rw [co_addP, co_trim, co_out _ j (by omega), mulP_len _ _ j (by simp; omega) (by simp)]
    rfl
theorem nw_next (l : List (Nat × Nat)) (hl : PSm l) (i x : Nat) (hx : x < 256) : ev (nw l (i + 1)).2 x = mul (ev (nw l i).2 x) (x ^^^ px l i) := by
  rw [nw, ev_trim, ev_mulP _ _ _ (nw_sm l i).2 (pair_sm _ _ (hl i).1 (by omega)) hx, ev_line _ _ hx]
theorem nw_zero (l : List (Nat × Nat)) (hl : PSm l) (j : Nat) : ∀ i, j < i → ev (nw l i).2 (px l j) = 0
  | 0, h => by omega
  | i + 1, h => by
    rw [nw_next l hl i _ (hl j).1]
    by_cases e : j = i
    · subst e; rw [Nat.xor_self, Gf.mul_zero]
    · rw [nw_zero l hl j i (by omega), Gf.zero_mul]
theorem nw_ne (l : List (Nat × Nat)) (hl : PSm l) (x : Nat) (hx : x < 256) : ∀ i, (∀ j, j < i → x ≠ px l j) → ev (nw l i).2 x ≠ 0
  | 0, _ => by rw [nw, ev_one]; omega
  | i + 1, h => by
    rw [nw_next l hl i x hx]
    exact Gf.mul_ne _ _ (nw_ne l hl x hx i fun j hj => h j (by omega)) (fun e => h i (by omega) (Gf.xor_zero_iff _ _ e))
theorem nw_meets (l : List (Nat × Nat)) (hl : PSm l) (j : Nat) : ∀ i, Apart l i → j < i → ev (nw l i).1 (px l j) = py l j
  | 0, _, h => by omega
  | i + 1, ha, h => by
    have hz : ev (nw l i).2 (px l i) ≠ 0 := nw_ne l hl _ (hl i).1 i fun k hk => ha i k hk (by omega)
    have hs := nw_sm l i
    rw [nw, ev_trim, ev_addP _ _ _ hs.1 (Sm.mul _ _).trim (hl j).1, ev_trim, ev_mulP _ _ _ hs.2 (one_sm (Gf.quo_lt _ _)) (hl j).1, ev_one]
    by_cases e : j = i
    · subst e
      rw [Gf.mul_comm, Gf.quo_mul _ _ (Gf.xor_lt _ _ (hl j).2 (ev_lt _ _ hs.1)) (ev_lt _ _ hs.2) hz, Nat.xor_comm (py l j), ← Nat.xor_assoc, Nat.xor_self, Nat.zero_xor]
    · rw [nw_zero l hl j i (by omega), Gf.zero_mul, Nat.xor_zero, nw_meets l hl j i (fun a b h1 h2 => ha a b h1 (by omega)) (by omega)]
theorem nw_thr (l : List (Nat × Nat)) (hl : PSm l) (hd : Apart l l.length) : (nw l l.length).1 = thr l l.length := by
  have h := thr_one l hl hd (nw l l.length).1 (nw_sm l _).1 (fun i hi => co_out _ i (by have := (nw_len l l.length).1; omega)) (fun j hj => nw_meets l hl j _ hd hj)
  rw [← h]
  cases l.length with
  | zero => rfl
  | succ n => rw [nw, trim_trim]
theorem apart_next (l : List (Nat × Nat)) (hl : PSm l) (i : Nat) (h : Apart l i) (hz : ev (nw l i).2 (px l i) ≠ 0) : Apart l (i + 1) := fun a b h1 h2 => by
  by_cases e : a = i
  · subst e
    exact fun e => hz (by rw [e]; exact nw_zero l hl b a h1)
  · exact h a b h1 (by omega)
theorem apart_not (l : List (Nat × Nat)) (hl : PSm l) (i n : Nat) (hi : i < n) (hz : ev (nw l i).2 (px l i) = 0) : ¬ Apart l n := fun h =>
  nw_ne l hl _ (hl i).1 i (fun j hj => h i j hj hi) hz
end Pol
