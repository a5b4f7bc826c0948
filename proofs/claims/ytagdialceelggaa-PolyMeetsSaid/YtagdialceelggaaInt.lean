/-
  The plain mathematics of the polynomial through some points: the sum of what is 1 at one place and 0 at all others, that it has the points' values, and that no other polynomial of so few coefficients has. Conditions: none; nothing of the program is named here.
-/
import Derived.Test.YtagdialceelggaaPol
namespace Pol
open Gf (mul)

/-- A list's places and values. -/
def px (l : List (Nat × Nat)) (i : Nat) : Nat := (l[i]?.getD (0, 0)).1
def py (l : List (Nat × Nat)) (i : Nat) : Nat := (l[i]?.getD (0, 0)).2
/-- No place is there twice among the first n. -/
def Apart (l : List (Nat × Nat)) (n : Nat) : Prop := ∀ i k, k < i → i < n → px l i ≠ px l k
def PSm (l : List (Nat × Nat)) : Prop := ∀ i, px l i < 256 ∧ py l i < 256
theorem Apart.ne {l : List (Nat × Nat)} {n i k : Nat} (h : Apart l n) (hi : i < n) (hk : k < n) (hne : i ≠ k) : px l i ≠ px l k := by
  rcases Nat.lt_or_gt_of_ne hne with h1 | h1
  · exact fun e => h k i h1 hk e.symm
  · exact h i k h1 hi

/-- The inverse of a difference. -/
def dd (l : List (Nat × Nat)) (i k : Nat) : Nat := Gf.quo 1 (px l i ^^^ px l k)
def lag (l : List (Nat × Nat)) (i : Nat) : Nat → List Nat
  | 0 => [py l i]
  | k + 1 => if k = i then lag l i k else trim (mulP (lag l i k) [mul (px l k) (dd l i k), dd l i k])
def thr (l : List (Nat × Nat)) : Nat → List Nat
  | 0 => []
  | i + 1 => trim (addP (thr l i) (lag l i l.length))

theorem dd_lt (l : List (Nat × Nat)) (i k : Nat) : dd l i k < 256 := Gf.quo_lt _ _
theorem pair_sm (p q : Nat) (hp : p < 256) (hq : q < 256) : Sm [p, q] := Sm.cons hp (Sm.cons hq Sm.nil)
theorem lag_sm (l : List (Nat × Nat)) (hl : PSm l) (i : Nat) : ∀ k, Sm (lag l i k)
  | 0 => Sm.cons (hl i).2 Sm.nil
  | k + 1 => by
    rw [lag]
    split
    · exact lag_sm l hl i k
    · exact (Sm.mul _ _).trim
theorem thr_sm (l : List (Nat × Nat)) (hl : PSm l) : ∀ i, Sm (thr l i)
  | 0 => Sm.nil
  | i + 1 => ((thr_sm l hl i).add (lag_sm l hl i _)).trim
theorem ev_pair (x k d : Nat) (hx : x < 256) (hk : k < 256) (hd : d < 256) : ev [mul k d, d] x = mul (x ^^^ k) d := by
  show mul k d ^^^ mul x (d ^^^ mul x 0) = _
  rw [Gf.mul_zero, Nat.xor_zero, Gf.add_mul x k d hx hk hd, Nat.xor_comm]
theorem dd_mul (l : List (Nat × Nat)) (hl : PSm l) (i k : Nat) (h : px l i ≠ px l k) : mul (px l i ^^^ px l k) (dd l i k) = 1 := by
  rw [Gf.mul_comm]
  exact Gf.quo_mul 1 _ (by omega) (Gf.xor_lt _ _ (hl i).1 (hl k).1) (fun e => h (Gf.xor_zero_iff _ _ e))
theorem ev_lag_succ (l : List (Nat × Nat)) (hl : PSm l) (i k x : Nat) (hx : x < 256) (h : k ≠ i) : ev (lag l i (k + 1)) x = mul (ev (lag l i k) x) (mul (x ^^^ px l k) (dd l i k)) := by
  rw [lag, if_neg h, ev_trim, ev_mulP _ _ x (lag_sm l hl i k) (pair_sm _ _ (Gf.mul_lt _ _) (dd_lt l i k)) hx, ev_pair x _ _ hx (hl k).1 (dd_lt l i k)]
theorem lag_own (l : List (Nat × Nat)) (hl : PSm l) (n i : Nat) (hd : Apart l n) (hi : i < n) : ∀ k, k ≤ n → ev (lag l i k) (px l i) = py l i
  | 0, _ => by
    show py l i ^^^ mul (px l i) 0 = _
    rw [Gf.mul_zero, Nat.xor_zero]
  | k + 1, hk => by
    by_cases e : k = i
    · rw [lag, if_pos e]; exact lag_own l hl n i hd hi k (by omega)
    · rw [ev_lag_succ l hl i k _ (hl i).1 e, lag_own l hl n i hd hi k (by omega), dd_mul l hl i k (hd.ne hi (by omega) (fun h => e h.symm)), Gf.mul_one _ (hl i).2]
theorem lag_other (l : List (Nat × Nat)) (hl : PSm l) (i j : Nat) (hj : j ≠ i) : ∀ k, j < k → ev (lag l i k) (px l j) = 0
  | 0, h => by omega
  | k + 1, h => by
    by_cases e : k = i
    · rw [lag, if_pos e]; exact lag_other l hl i j hj k (by omega)
    · rw [ev_lag_succ l hl i k _ (hl j).1 e]
      by_cases f : j = k
      · subst f; rw [Nat.xor_self, Gf.zero_mul, Gf.mul_zero]
      · rw [lag_other l hl i j hj k (by omega), Gf.zero_mul]
theorem lag_len (l : List (Nat × Nat)) (i : Nat) : ∀ k, (lag l i k).length ≤ if k ≤ i then k + 1 else k
  | 0 => by simp [lag]
  | k + 1 => by
    have ih := lag_len l i k
    rw [lag]
    by_cases e : k = i
    · rw [if_pos e]
      subst e
      rw [if_pos (Nat.le_refl _)] at ih
      rw [if_neg (by omega)]; exact ih
    · rw [if_neg e]
      refine trim_le _ _ (fun t ht => mulP_len _ _ t ?_ (by simp))
      simp only [List.length_cons, List.length_nil]
      by_cases h : k ≤ i
      · rw [if_pos h] at ih
        rw [if_pos (by omega)] at ht
        omega
      · rw [if_neg h] at ih
        rw [if_neg (by omega)] at ht
        omega
theorem thr_len (l : List (Nat × Nat)) : ∀ i, i ≤ l.length → ∀ t, l.length ≤ t → co (thr l i) t = 0
  | 0, _, t, _ => co_nil t
  | i + 1, hi, t, ht => by
    have h1 := thr_len l i (by omega) t ht
    have h2 := lag_len l i l.length
    rw [if_neg (by omega)] at h2
    rw [thr, co_trim, co_addP, h1, co_out _ t (by omega)]; rfl
theorem ev_thr (l : List (Nat × Nat)) (hl : PSm l) (x : Nat) (hx : x < 256) : ∀ i, ev (thr l i) x = xs i (fun i' => ev (lag l i' l.length) x)
  | 0 => rfl
  | i + 1 => by rw [thr, ev_trim, ev_addP _ _ x (thr_sm l hl i) (lag_sm l hl i _) hx, ev_thr l hl x hx i]; rfl
/-- It goes through the points. -/
theorem thr_meets (l : List (Nat × Nat)) (hl : PSm l) (hd : Apart l l.length) (j : Nat) (hj : j < l.length) : ev (thr l l.length) (px l j) = py l j := by
  rw [ev_thr l hl _ (hl j).1, xs_single _ j _ hj (fun i hi hne => lag_other l hl i j (fun h => hne h.symm) _ hj)]
  exact lag_own l hl l.length j hd hj _ (Nat.le_refl _)
theorem thr_trim (l : List (Nat × Nat)) : ∀ i, trim (thr l i) = thr l i
  | 0 => rfl
  | _ + 1 => trim_trim _
/-- The places, as a list. -/
theorem places (l : List (Nat × Nat)) (hl : PSm l) (hd : Apart l l.length) : (l.map (·.1)).Nodup ∧ (∀ p ∈ l.map (·.1), p < 256) ∧ (∀ p ∈ l.map (·.1), ∃ j, j < l.length ∧ px l j = p) := by
  have key : ∀ i, i < l.length → ∀ (h : i < (l.map (·.1)).length), (l.map (·.1))[i] = px l i := fun i hi h => by
    simp [px, List.getElem?_eq_getElem hi]
  have back : ∀ p ∈ l.map (·.1), ∃ j, j < l.length ∧ px l j = p := fun p hp => by
    obtain ⟨i, hi, e⟩ := List.getElem_of_mem hp
    have hi' : i < l.length := by simpa using hi
    exact ⟨i, hi', by rw [← e, key i hi' hi]⟩
  refine ⟨?_, fun p hp => ?_, back⟩
  · refine List.pairwise_iff_getElem.2 (fun i j hi hj hij => ?_)
    have hi' : i < l.length := by simpa using hi
    have hj' : j < l.length := by simpa using hj
    rw [key i hi' hi, key j hj' hj]
    exact fun e => hd j i hij hj' e.symm
  · obtain ⟨j, _, rfl⟩ := back p hp
    exact (hl j).1
/-- Whatever has so few coefficients and the points' values is that polynomial. -/
theorem thr_one (l : List (Nat × Nat)) (hl : PSm l) (hd : Apart l l.length) (p : List Nat) (hp : Sm p) (hlen : ∀ i, l.length ≤ i → co p i = 0) (hev : ∀ j, j < l.length → ev p (px l j) = py l j) : trim p = thr l l.length := by
  rw [← thr_trim l l.length]
  refine trim_ext _ _ (meet l.length p (thr l l.length) (l.map (·.1)) (by simp) (places l hl hd).1 (places l hl hd).2.1 hp (thr_sm l hl _) hlen (thr_len l _ (Nat.le_refl _)) (fun q hq => ?_))
  obtain ⟨j, hj, rfl⟩ := (places l hl hd).2.2 q hq
  rw [hev j hj, thr_meets l hl hd j hj]
end Pol
