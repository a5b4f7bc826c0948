/-
  Part 1 of the texts that the seat's proofs stand on; each part of it begins with its own sentence and conditions. Conditions: those that each theorem names.
-/
import Derived.WalkKit
import Derived.Lib.Hide
import Derived.Deep.QuietTactic
import Derived.BigQuiet
import Derived.Deep.WholeRow
import Derived.Deep.MidRow
import Derived.Deep.LoopGhost
import Derived.Laws.BitsAllLaws
import Derived.OpenShut
import Derived.Test.YtjifionpblpfoaaProg
import Derived.Maps.AppendAt
import Derived.Orders
import Derived.StillTail

/-
  The plain mathematics of the field with 256 elements, on natural numbers: the powers of 3, their exponents, products, quotients and powers, and the laws that they keep. Conditions: none; nothing of the program is named here.
-/
namespace Gf

/-- Times 2, modulo x^8 + x^4 + x^3 + x + 1. -/
def dbl (a : Nat) : Nat := ((2 * a) % 256) ^^^ (if a < 128 then 0 else 27)
/-- Times 3. -/
def tri (a : Nat) : Nat := dbl a ^^^ a
/-- The powers of 3. -/
def pw : Nat → Nat
  | 0 => 1
  | n + 1 => tri (pw n)
/-- The table of exponents behind k rounds. -/
def lt : Nat → Nat → Nat
  | 0, _ => 0
  | k + 1, x => if x = pw k then k else lt k x
def lg (x : Nat) : Nat := lt 255 x
def mul (a b : Nat) : Nat := if a = 0 ∨ b = 0 then 0 else pw ((lg a + lg b) % 255)
def quo (a b : Nat) : Nat := if a = 0 then 0 else pw ((lg a + 255 - lg b) % 255)
def pow (a n : Nat) : Nat := if n = 0 then 1 else if a = 0 then 0 else pw ((lg a * (n % 255)) % 255)

def run : Nat → Nat → List Nat
  | 0, _ => []
  | n + 1, x => x :: run n (tri x)

theorem run_at : ∀ (n i s : Nat), i < n → (run n (pw s))[i]? = some (pw (s + i))
  | 0, _, _, h => by omega
  | n + 1, 0, s, _ => by simp [run]
  | n + 1, i + 1, s, h => by
    have := run_at n i (s + 1) (by omega)
    simp only [run, List.getElem?_cons_succ]
    rw [show tri (pw s) = pw (s + 1) from rfl, this]
    congr 2; omega

theorem run_len : ∀ (n x : Nat), (run n x).length = n
  | 0, _ => rfl
  | n + 1, x => by simp [run, run_len n]

theorem tab_nodup : (run 255 1).Nodup := by decide +kernel
theorem tab_all : ∀ a, a < 256 → a ≠ 0 → a ∈ run 255 1 := by decide +kernel
theorem tab_small : ∀ a ∈ run 255 1, a ≠ 0 ∧ a < 256 := by decide +kernel
theorem tri_add : ∀ a, a < 256 → ∀ b, b < 256 → tri (a ^^^ b) = tri a ^^^ tri b := by decide +kernel
theorem tri_lt : ∀ a, a < 256 → tri a < 256 := by decide +kernel
theorem dbl_lt : ∀ a, a < 256 → dbl a < 256 := by decide +kernel
theorem pw_255 : pw 255 = 1 := by decide +kernel

theorem tab_at (i : Nat) (h : i < 255) : (run 255 1)[i]? = some (pw i) := by
  have := run_at 255 i 0 h
  simpa [pw] using this

theorem pw_inj (i j : Nat) (hi : i < 255) (hj : j < 255) (h : pw i = pw j) : i = j := by
  have a := tab_at i hi
  have b := tab_at j hj
  rw [← h] at b
  have hl := run_len 255 1
  obtain ⟨_, ea⟩ := List.getElem?_eq_some_iff.1 a
  obtain ⟨_, eb⟩ := List.getElem?_eq_some_iff.1 b
  have hp := List.pairwise_iff_getElem.1 tab_nodup
  rcases Nat.lt_trichotomy i j with hlt | he | hlt
  · exact absurd (ea.trans eb.symm) (hp i j _ _ hlt)
  · exact he
  · exact absurd (eb.trans ea.symm) (hp j i _ _ hlt)

theorem pw_add255 : ∀ n, pw (n + 255) = pw n
  | 0 => by rw [Nat.zero_add]; exact pw_255
  | n + 1 => by
    rw [show n + 1 + 255 = (n + 255) + 1 from by omega]
    show tri (pw (n + 255)) = tri (pw n)
    rw [pw_add255 n]

theorem pw_mul255 (n : Nat) : ∀ k, pw (n + 255 * k) = pw n
  | 0 => rfl
  | k + 1 => by rw [show n + 255 * (k + 1) = (n + 255 * k) + 255 from by omega, pw_add255, pw_mul255 n k]

theorem pw_mod (n : Nat) : pw (n % 255) = pw n := by
  have := pw_mul255 (n % 255) (n / 255)
  rw [show n % 255 + 255 * (n / 255) = n from by omega] at this
  exact this.symm

theorem pw_bd (n : Nat) : pw n ≠ 0 ∧ pw n < 256 := by
  rw [← pw_mod]
  exact tab_small _ (List.mem_of_getElem? (tab_at _ (by omega)))

theorem lt_pw (k i : Nat) (hk : k ≤ 255) (hi : i < k) : lt k (pw i) = i := by
  induction k with
  | zero => omega
  | succ k ih =>
    unfold lt
    by_cases e : i = k
    · subst e; simp
    · rw [if_neg (fun h => e (pw_inj i k (by omega) (by omega) h))]
      exact ih (by omega) (by omega)

theorem lg_pw (i : Nat) (hi : i < 255) : lg (pw i) = i := lt_pw 255 i (by omega) hi

theorem is_pw (a : Nat) (h : a < 256) (h0 : a ≠ 0) : ∃ i, i < 255 ∧ pw i = a := by
  obtain ⟨i, hi⟩ := List.getElem?_of_mem (tab_all a h h0)
  have hl : i < 255 := by
    have := (List.getElem?_eq_some_iff.1 hi).1
    rwa [run_len] at this
  exact ⟨i, hl, by rw [tab_at i hl] at hi; exact Option.some.inj hi⟩

theorem lt_lt : ∀ (k x : Nat), k ≤ 256 → lt k x < 256
  | 0, _, _ => by simp [lt]
  | k + 1, x, h => by
    unfold lt
    split
    · omega
    · exact lt_lt k x (by omega)

theorem lg_lt (x : Nat) : lg x < 255 := by
  have : ∀ k, k ≤ 255 → lt k x < 255 := by
    intro k
    induction k with
    | zero => intro _; simp [lt]
    | succ k ih =>
      intro h
      unfold lt
      split
      · omega
      · exact ih (by omega)
  exact this 255 (by omega)

theorem pw_lg (a : Nat) (h : a < 256) (h0 : a ≠ 0) : pw (lg a) = a := by
  obtain ⟨i, hi, rfl⟩ := is_pw a h h0
  rw [lg_pw i hi]

theorem mul_pw (i j : Nat) : mul (pw i) (pw j) = pw (i + j) := by
  unfold mul
  rw [if_neg (by have := pw_bd i; have := pw_bd j; omega)]
  rw [← pw_mod i, ← pw_mod j, lg_pw _ (by omega), lg_pw _ (by omega), pw_mod, ← pw_mod (i + j), ← pw_mod (i % 255 + j % 255)]
  congr 1; omega

theorem mul_zero (a : Nat) : mul a 0 = 0 := by simp [mul]
theorem zero_mul (a : Nat) : mul 0 a = 0 := by simp [mul]
theorem mul_comm (a b : Nat) : mul a b = mul b a := by
  unfold mul
  rw [Nat.add_comm (lg a)]
  by_cases h : a = 0 ∨ b = 0
  · rw [if_pos h, if_pos h.symm]
  · rw [if_neg h, if_neg (fun k => h k.symm)]

theorem mul_lt (a b : Nat) : mul a b < 256 := by
  unfold mul
  split
  · omega
  · exact (pw_bd _).2

theorem mul_ne (a b : Nat) (h : a ≠ 0) (k : b ≠ 0) : mul a b ≠ 0 := by
  unfold mul
  rw [if_neg (by omega)]
  exact (pw_bd _).1

theorem mul_assoc (a b c : Nat) (ha : a < 256) (hb : b < 256) (hc : c < 256) : mul (mul a b) c = mul a (mul b c) := by
  by_cases a0 : a = 0
  · subst a0; simp [zero_mul]
  by_cases b0 : b = 0
  · subst b0; simp [zero_mul, mul_zero]
  by_cases c0 : c = 0
  · subst c0; simp [mul_zero]
  obtain ⟨i, _, rfl⟩ := is_pw a ha a0
  obtain ⟨j, _, rfl⟩ := is_pw b hb b0
  obtain ⟨k, _, rfl⟩ := is_pw c hc c0
  simp only [mul_pw]
  congr 1; omega

def tris : Nat → Nat → Nat
  | 0, x => x
  | n + 1, x => tri (tris n x)
theorem tris_lt : ∀ (n x : Nat), x < 256 → tris n x < 256
  | 0, _, h => h
  | n + 1, x, h => tri_lt _ (tris_lt n x h)
theorem tris_add : ∀ (n a b : Nat), a < 256 → b < 256 → tris n (a ^^^ b) = tris n a ^^^ tris n b
  | 0, _, _, _, _ => rfl
  | n + 1, a, b, ha, hb => by
    show tri (tris n (a ^^^ b)) = tri (tris n a) ^^^ tri (tris n b)
    rw [tris_add n a b ha hb, tri_add _ (tris_lt n a ha) _ (tris_lt n b hb)]
theorem tris_zero : ∀ n, tris n 0 = 0
  | 0 => rfl
  | n + 1 => by show tri (tris n 0) = 0; rw [tris_zero n]; rfl
theorem tris_pw : ∀ n j, tris n (pw j) = pw (n + j)
  | 0, j => by simp [tris]
  | n + 1, j => by
    show tri (tris n (pw j)) = _
    rw [tris_pw n j, show n + 1 + j = (n + j) + 1 from by omega]; rfl
theorem mul_tris (i b : Nat) (hb : b < 256) : mul (pw i) b = tris i b := by
  by_cases b0 : b = 0
  · subst b0; rw [mul_zero, tris_zero]
  · obtain ⟨j, _, rfl⟩ := is_pw b hb b0
    rw [mul_pw, tris_pw]

theorem xor_lt (a b : Nat) (ha : a < 256) (hb : b < 256) : a ^^^ b < 256 := Nat.xor_lt_two_pow (n := 8) ha hb

theorem mul_add (a b c : Nat) (ha : a < 256) (hb : b < 256) (hc : c < 256) : mul a (b ^^^ c) = mul a b ^^^ mul a c := by
  by_cases a0 : a = 0
  · subst a0; simp [zero_mul]
  obtain ⟨i, _, rfl⟩ := is_pw a ha a0
  rw [mul_tris i _ (xor_lt b c hb hc), mul_tris i _ hb, mul_tris i _ hc, tris_add i b c hb hc]

theorem add_mul (a b c : Nat) (ha : a < 256) (hb : b < 256) (hc : c < 256) : mul (a ^^^ b) c = mul a c ^^^ mul b c := by
  rw [mul_comm, mul_add c a b hc ha hb, mul_comm c a, mul_comm c b]

theorem mul_one (a : Nat) (ha : a < 256) : mul a 1 = a := by
  rw [mul_comm, show (1 : Nat) = pw 0 from rfl, mul_tris 0 a ha]; rfl
theorem one_mul (a : Nat) (ha : a < 256) : mul 1 a = a := by rw [mul_comm, mul_one a ha]
theorem mul_three (a : Nat) (ha : a < 256) : mul 3 a = tri a := by
  rw [show (3 : Nat) = pw 1 from by decide +kernel, mul_tris 1 a ha]; rfl
theorem mul_two (a : Nat) (ha : a < 256) : mul 2 a = dbl a := by
  rw [show (2 : Nat) = 3 ^^^ 1 from by decide, add_mul 3 1 a (by omega) (by omega) ha, mul_three a ha, one_mul a ha]
  unfold tri
  rw [Nat.xor_assoc, Nat.xor_self, Nat.xor_zero]

/-! Quotients. -/
theorem quo_lt (a b : Nat) : quo a b < 256 := by
  unfold quo
  split
  · omega
  · exact (pw_bd _).2
theorem quo_mul (a b : Nat) (ha : a < 256) (hb : b < 256) (b0 : b ≠ 0) : mul (quo a b) b = a := by
  obtain ⟨j, hj, rfl⟩ := is_pw b hb b0
  by_cases a0 : a = 0
  · subst a0; simp [quo, zero_mul]
  obtain ⟨i, hi, rfl⟩ := is_pw a ha a0
  unfold quo
  rw [if_neg a0, lg_pw i hi, lg_pw j hj, mul_pw, ← pw_mod, ← pw_mod i]
  congr 1; omega
/-- What is multiplied by an element other than 0 tells the element. -/
theorem mul_cancel (a c b : Nat) (ha : a < 256) (hc : c < 256) (hb : b < 256) (b0 : b ≠ 0) (h : mul a b = mul c b) : a = c := by
  have hq := quo_mul 1 b (by omega) hb b0
  have e1 : mul (mul a b) (quo 1 b) = a := by
    rw [mul_assoc a b _ ha hb (quo_lt _ _), mul_comm b, hq, mul_one a ha]
  have e2 : mul (mul c b) (quo 1 b) = c := by
    rw [mul_assoc c b _ hc hb (quo_lt _ _), mul_comm b, hq, mul_one c hc]
  rw [← e1, ← e2, h]
theorem quo_of (a b d : Nat) (ha : a < 256) (hb : b < 256) (b0 : b ≠ 0) (hd : d < 256) (h : mul d b = a) : quo a b = d :=
  mul_cancel _ _ b (quo_lt _ _) hd hb b0 ((quo_mul a b ha hb b0).trans h.symm)
theorem quo_ne (a b : Nat) (a0 : a ≠ 0) : quo a b ≠ 0 := by
  unfold quo
  rw [if_neg a0]
  exact (pw_bd _).1
theorem quo_inv (a b : Nat) (ha : a < 256) (hb : b < 256) (b0 : b ≠ 0) : quo a b = mul a (quo 1 b) := by
  refine quo_of a b _ ha hb b0 (mul_lt _ _) ?_
  rw [mul_assoc a _ b ha (quo_lt _ _) hb, quo_mul 1 b (by omega) hb b0, mul_one a ha]
theorem inv_inv (b : Nat) (hb : b < 256) (b0 : b ≠ 0) : quo 1 (quo 1 b) = b :=
  quo_of 1 _ b (by omega) (quo_lt _ _) (quo_ne 1 b (by omega)) hb (by rw [mul_comm]; exact quo_mul 1 b (by omega) hb b0)
theorem mul_quo (a b : Nat) (ha : a < 256) (hb : b < 256) (b0 : b ≠ 0) : quo (mul a b) b = a :=
  quo_of _ b a (mul_lt _ _) hb b0 ha rfl
theorem inv_inj (a b : Nat) (ha : a < 256) (hb : b < 256) (a0 : a ≠ 0) (b0 : b ≠ 0) (h : quo 1 a = quo 1 b) : a = b := by
  rw [← inv_inv a ha a0, ← inv_inv b hb b0, h]

/-! Powers. -/
theorem pow_lt (a n : Nat) : pow a n < 256 := by
  unfold pow
  split
  · omega
  · split
    · omega
    · exact (pw_bd _).2
theorem pow_pw (i n : Nat) (hi : i < 255) : pow (pw i) n = pw (i * n) := by
  unfold pow
  by_cases n0 : n = 0
  · subst n0; simp [pw]
  · rw [if_neg n0, if_neg (pw_bd i).1, lg_pw i hi, pw_mod, ← pw_mod (i * (n % 255)), ← pw_mod (i * n)]
    congr 1
    rw [Nat.mul_mod, Nat.mod_mod, ← Nat.mul_mod]
theorem pow_zero (a : Nat) : pow a 0 = 1 := by simp [pow]
theorem zero_pow (n : Nat) (h : n ≠ 0) : pow 0 n = 0 := by simp [pow, h]
theorem pow_succ (a n : Nat) (ha : a < 256) : pow a (n + 1) = mul (pow a n) a := by
  by_cases a0 : a = 0
  · subst a0; rw [zero_pow _ (by omega), mul_zero]
  · obtain ⟨i, hi, rfl⟩ := is_pw a ha a0
    rw [pow_pw i _ hi, pow_pw i _ hi, mul_pw]; rfl
theorem pow_add (a n m : Nat) (ha : a < 256) : pow a (n + m) = mul (pow a n) (pow a m) := by
  by_cases a0 : a = 0
  · subst a0
    by_cases n0 : n = 0
    · subst n0; rw [pow_zero, Nat.zero_add, one_mul _ (pow_lt _ _)]
    · rw [zero_pow n n0, zero_mul, zero_pow _ (by omega)]
  · obtain ⟨i, hi, rfl⟩ := is_pw a ha a0
    rw [pow_pw i _ hi, pow_pw i _ hi, pow_pw i _ hi, mul_pw, Nat.mul_add]
theorem pow_one (a : Nat) (ha : a < 256) : pow a 1 = a := by rw [pow_succ a 0 ha, pow_zero, one_mul a ha]
theorem pow_two (a : Nat) (ha : a < 256) : pow a 2 = mul a a := by rw [pow_succ a 1 ha, pow_one a ha]
theorem pow_255 (a : Nat) (ha : a < 256) (a0 : a ≠ 0) : pow a 255 = 1 := by
  obtain ⟨i, hi, rfl⟩ := is_pw a ha a0
  rw [pow_pw i _ hi, ← pw_mod, Nat.mul_mod_left]; rfl
theorem pow_256 (a : Nat) (ha : a < 256) : pow a 256 = a := by
  by_cases a0 : a = 0
  · subst a0; rfl
  · rw [pow_succ a 255 ha, pow_255 a ha a0, one_mul a ha]
theorem pow_mod (a n : Nat) (ha : a < 256) (a0 : a ≠ 0) : pow a (n % 255) = pow a n := by
  obtain ⟨i, hi, rfl⟩ := is_pw a ha a0
  rw [pow_pw i _ hi, pow_pw i _ hi, ← pw_mod (i * (n % 255)), ← pw_mod (i * n)]
  congr 1
  rw [Nat.mul_mod, Nat.mod_mod, ← Nat.mul_mod]
theorem pow_three (n : Nat) : pow 3 n = pw n := by
  rw [show (3 : Nat) = pw 1 from by decide +kernel, pow_pw 1 n (by omega), Nat.one_mul]
theorem pow_lg (a : Nat) (ha : a < 256) (a0 : a ≠ 0) : pow 3 (lg a) = a := by rw [pow_three, pw_lg a ha a0]
theorem pow_sq (a n : Nat) (ha : a < 256) : pow (mul a a) n = pow a (2 * n) := by
  by_cases a0 : a = 0
  · subst a0
    rw [mul_zero]
    by_cases n0 : n = 0
    · subst n0; rfl
    · rw [zero_pow n n0, zero_pow _ (by omega)]
  · obtain ⟨i, hi, rfl⟩ := is_pw a ha a0
    rw [mul_pw, ← pw_mod (i + i), pow_pw _ n (by omega), pow_pw i _ hi, ← pw_mod, ← pw_mod (i * (2 * n))]
    congr 1
    rw [Nat.mul_mod, Nat.mod_mod, ← Nat.mul_mod]
    congr 1
    rw [← Nat.mul_assoc]
    congr 1; omega

/-- One round of the power by squares. -/
theorem pow_step (o x m : Nat) (ho : o < 256) (hx : x < 256) : mul o (pow x m) = mul (if m % 2 = 1 then mul o x else o) (pow (mul x x) (m / 2)) := by
  rw [pow_sq x _ hx]
  split
  · rename_i h
    rw [mul_assoc o x _ ho hx (pow_lt _ _), mul_comm x, ← pow_succ x _ hx]
    congr 2; omega
  · congr 2; omega

/-! Squares. -/
theorem sq_add (a b : Nat) (ha : a < 256) (hb : b < 256) : pow (a ^^^ b) 2 = pow a 2 ^^^ pow b 2 := by
  have hx := xor_lt a b ha hb
  rw [pow_two _ hx, pow_two a ha, pow_two b hb, mul_add _ a b hx ha hb, add_mul a b a ha hb ha, add_mul a b b ha hb hb, mul_comm b a]
  rw [Nat.xor_assoc, ← Nat.xor_assoc (mul a b), Nat.xor_self, Nat.zero_xor]
theorem xor_zero_iff (a b : Nat) (h : a ^^^ b = 0) : a = b := by
  have e : (a ^^^ b) ^^^ b = a := by rw [Nat.xor_assoc, Nat.xor_self, Nat.xor_zero]
  rw [← e, h, Nat.zero_xor]
theorem sq_inj (a b : Nat) (ha : a < 256) (hb : b < 256) (h : pow a 2 = pow b 2) : a = b := by
  have hx := xor_lt a b ha hb
  have e : pow (a ^^^ b) 2 = 0 := by rw [sq_add a b ha hb, h, Nat.xor_self]
  rw [pow_two _ hx] at e
  refine xor_zero_iff a b (Decidable.byContradiction fun hn => mul_ne _ _ hn hn e)

/-! Logarithms. -/
theorem lg_mul (a b : Nat) (a0 : a ≠ 0) (b0 : b ≠ 0) : lg (mul a b) = (lg a + lg b) % 255 := by
  unfold mul
  rw [if_neg (by omega), lg_pw _ (by omega)]
theorem lg_pow3 (n : Nat) : lg (pow 3 n) = n % 255 := by
  rw [pow_three, ← pw_mod, lg_pw _ (by omega)]
theorem lg_inj (a b : Nat) (ha : a < 256) (hb : b < 256) (a0 : a ≠ 0) (b0 : b ≠ 0) (h : lg a = lg b) : a = b := by
  rw [← pw_lg a ha a0, ← pw_lg b hb b0, h]

/-- One round of the product bit by bit. -/
theorem mul_step (x y : Nat) (hx : x < 256) (hy : y < 256) : mul x y = (if y % 2 = 1 then x else 0) ^^^ mul (dbl x) (y / 2) := by
  have h2 : mul 2 (y / 2) = 2 * (y / 2) := by
    rw [mul_two _ (by omega)]
    unfold dbl
    rw [if_pos (by omega), Nat.xor_zero, Nat.mod_eq_of_lt (by omega)]
  have e : y = (y % 2) ^^^ (2 * (y / 2)) := by
    have hs : ∀ y, y < 256 → y = (y % 2) ^^^ (2 * (y / 2)) := by decide +kernel
    exact hs y hy
  have e2 : mul x (y % 2) = if y % 2 = 1 then x else 0 := by
    rcases Nat.mod_two_eq_zero_or_one y with h | h
    · rw [h, mul_zero]; rfl
    · rw [h, mul_one x hx]; rfl
  have e3 : mul x (2 * (y / 2)) = mul (dbl x) (y / 2) := by
    rw [← h2, ← mul_assoc x 2 _ hx (by omega) (by omega), mul_comm x 2, mul_two x hx]
  conv => lhs; rw [e]
  rw [mul_add x _ _ hx (by omega) (by omega), e2, e3]

end Gf

/-
  The plain mathematics of polynomials over the field with 256 elements, as lists of coefficients, the lowest first: values, sums, products, trimming, division's uniqueness, and that as many values as coefficients tell a polynomial. Conditions: none; nothing of the program is named here.
-/
namespace Pol
open Gf (mul)

/-! ### Sums without carry -/
def xs : Nat → (Nat → Nat) → Nat
  | 0, _ => 0
  | n + 1, f => xs n f ^^^ f n
theorem xs_congr {f g : Nat → Nat} : ∀ n, (∀ i, i < n → f i = g i) → xs n f = xs n g
  | 0, _ => rfl
  | n + 1, h => by simp only [xs]; rw [xs_congr n (fun i hi => h i (by omega)), h n (by omega)]
theorem xs_zero {f : Nat → Nat} : ∀ n, (∀ i, i < n → f i = 0) → xs n f = 0
  | 0, _ => rfl
  | n + 1, h => by simp only [xs]; rw [xs_zero n (fun i hi => h i (by omega)), h n (by omega)]; rfl
theorem xs_shift (f : Nat → Nat) : ∀ n, xs (n + 1) f = f 0 ^^^ xs n (fun i => f (i + 1))
  | 0 => by simp [xs]
  | n + 1 => by rw [xs, xs_shift f n]; simp only [xs]; rw [Nat.xor_assoc]
theorem xor_swap (a b c d : Nat) : (a ^^^ b) ^^^ (c ^^^ d) = (a ^^^ c) ^^^ (b ^^^ d) := by
  rw [Nat.xor_assoc, Nat.xor_assoc, ← Nat.xor_assoc b, ← Nat.xor_assoc c, Nat.xor_comm b c]
theorem xs_add (f g : Nat → Nat) : ∀ n, xs n (fun i => f i ^^^ g i) = xs n f ^^^ xs n g
  | 0 => (Nat.xor_self 0).symm
  | n + 1 => by simp only [xs]; rw [xs_add f g n, xor_swap]
theorem xs_lt {f : Nat → Nat} : ∀ n, (∀ i, i < n → f i < 256) → xs n f < 256
  | 0, _ => by simp [xs]
  | n + 1, h => Gf.xor_lt _ _ (xs_lt n (fun i hi => h i (by omega))) (h n (by omega))
/-- One summand changes. -/
theorem xs_update (f : Nat → Nat) (d c : Nat) : ∀ n, d < n → xs n (fun i => if i = d then f i ^^^ c else f i) = xs n f ^^^ c
  | 0, h => by omega
  | n + 1, h => by
    simp only [xs]
    by_cases e : d = n
    · subst e
      rw [if_pos rfl, xs_congr (g := f) d (fun i hi => if_neg (by omega)), Nat.xor_assoc]
    · rw [if_neg (fun h => e h.symm), xs_update f d c n (by omega), Nat.xor_assoc, Nat.xor_comm c, ← Nat.xor_assoc]
theorem mul_xs (x : Nat) (f : Nat → Nat) (hx : x < 256) : ∀ n, (∀ i, i < n → f i < 256) → mul x (xs n f) = xs n (fun i => mul x (f i))
  | 0, _ => Gf.mul_zero x
  | n + 1, h => by
    simp only [xs]
    rw [Gf.mul_add x _ _ hx (xs_lt n (fun i hi => h i (by omega))) (h n (by omega)), mul_xs x f hx n (fun i hi => h i (by omega))]

/-! ### Coefficients -/
def co (l : List Nat) (i : Nat) : Nat := l[i]?.getD 0
def Sm (l : List Nat) : Prop := ∀ i, co l i < 256
theorem co_nil (i : Nat) : co [] i = 0 := by simp [co]
theorem co_zero (x : Nat) (l : List Nat) : co (x :: l) 0 = x := by simp [co]
theorem co_succ (x : Nat) (l : List Nat) (i : Nat) : co (x :: l) (i + 1) = co l i := by simp [co]
theorem co_out (l : List Nat) (i : Nat) (h : l.length ≤ i) : co l i = 0 := by simp [co, List.getElem?_eq_none h]
theorem co_lt_of {l : List Nat} (h : ∀ x ∈ l, x < 256) : Sm l := fun i => by
  unfold co
  cases hq : l[i]? with
  | none => simp
  | some v => simpa using h v (List.mem_of_getElem? hq)
theorem Sm.mem {l : List Nat} (h : Sm l) : ∀ x ∈ l, x < 256 := fun x hx => by
  obtain ⟨i, hi⟩ := List.getElem?_of_mem hx
  have := h i
  simpa [co, hi] using this
theorem Sm.nil : Sm [] := fun i => by rw [co_nil]; omega
theorem Sm.tail {x : Nat} {l : List Nat} (h : Sm (x :: l)) : Sm l := fun i => by have := h (i + 1); rwa [co_succ] at this
theorem Sm.head {x : Nat} {l : List Nat} (h : Sm (x :: l)) : x < 256 := by have := h 0; rwa [co_zero] at this
theorem Sm.cons {x : Nat} {l : List Nat} (hx : x < 256) (h : Sm l) : Sm (x :: l) := fun i => by
  cases i with
  | zero => rw [co_zero]; exact hx
  | succ i => rw [co_succ]; exact h i

/-! ### Trimming -/
def trim : List Nat → List Nat
  | [] => []
  | x :: l => match trim l with
    | [] => if x = 0 then [] else [x]
    | y :: t => x :: y :: t
theorem trim_cons (x : Nat) (l : List Nat) : trim (x :: l) = if trim l = [] ∧ x = 0 then [] else x :: trim l := by
  rw [trim]
  cases h : trim l with
  | nil => by_cases e : x = 0 <;> simp [e]
  | cons y t => simp
theorem co_trim : ∀ (l : List Nat) (i : Nat), co (trim l) i = co l i
  | [], _ => rfl
  | x :: l, i => by
    rw [trim_cons]
    split
    · rename_i h
      cases i with
      | zero => rw [co_nil, co_zero, h.2]
      | succ i => rw [co_nil, co_succ, ← co_trim l i, h.1, co_nil]
    · cases i with
      | zero => rw [co_zero, co_zero]
      | succ i => rw [co_succ, co_succ, co_trim l i]
theorem trim_ext : ∀ (a b : List Nat), (∀ i, co a i = co b i) → trim a = trim b
  | [], [], _ => rfl
  | [], y :: b, h => by
    have h0 := h 0
    rw [co_nil, co_zero] at h0
    have ih := trim_ext [] b (fun i => by have := h (i + 1); rwa [co_nil, co_succ] at this)
    rw [trim_cons, ← ih, if_pos ⟨rfl, h0.symm⟩]; rfl
  | x :: a, [], h => by
    have h0 := h 0
    rw [co_nil, co_zero] at h0
    have ih := trim_ext a [] (fun i => by have := h (i + 1); rw [co_succ] at this; rw [this, co_nil, co_nil])
    rw [trim_cons, ih, if_pos ⟨rfl, h0⟩]; rfl
  | x :: a, y :: b, h => by
    have h0 := h 0
    rw [co_zero, co_zero] at h0
    have ih := trim_ext a b (fun i => by have := h (i + 1); rwa [co_succ, co_succ] at this)
    rw [trim_cons, trim_cons, ih, h0]
theorem trim_trim (l : List Nat) : trim (trim l) = trim l := trim_ext _ _ (co_trim l)
theorem trim_len (l : List Nat) : (trim l).length ≤ l.length := by
  induction l with
  | nil => simp [trim]
  | cons x l ih =>
    rw [trim_cons]
    split
    · simp
    · simp; exact ih
theorem trim_le : ∀ (l : List Nat) (n : Nat), (∀ i, n ≤ i → co l i = 0) → (trim l).length ≤ n
  | [], n, _ => by simp [trim]
  | x :: l, 0, h => by
    have : trim (x :: l) = trim [] := trim_ext _ _ (fun i => by rw [h i (by omega), co_nil])
    rw [this]; simp [trim]
  | x :: l, n + 1, h => by
    have := trim_le l n (fun i hi => by have := h (i + 1) (by omega); rwa [co_succ] at this)
    rw [trim_cons]
    split
    · simp
    · simp; exact this
/-- The last coefficient of what is trimmed is not 0. -/
theorem trim_last : ∀ (l : List Nat), trim l ≠ [] → co l ((trim l).length - 1) ≠ 0
  | [], h => absurd rfl h
  | x :: l, h => by
    rw [trim_cons] at h ⊢
    by_cases e : trim l = [] ∧ x = 0
    · rw [if_pos e] at h; exact absurd rfl h
    · rw [if_neg e]
      by_cases t : trim l = []
      · rw [t]; simp only [List.length_cons, List.length_nil]
        show co (x :: l) 0 ≠ 0
        rw [co_zero]; exact fun h => e ⟨t, h⟩
      · have := trim_last l t
        have hl : 0 < (trim l).length := List.length_pos_iff.2 t
        rw [List.length_cons, show (trim l).length + 1 - 1 = ((trim l).length - 1) + 1 from by omega, co_succ]
        exact this
theorem trim_of (l : List Nat) (n : Nat) (hn : n ≤ l.length) (h : ∀ i, n ≤ i → co l i = 0) (h1 : n = 0 ∨ co l (n - 1) ≠ 0) : trim l = l.take n := by
  have hlen : (trim l).length = n := by
    have h2 := trim_le l n h
    rcases h1 with rfl | h1
    · omega
    · rcases Nat.lt_or_ge (trim l).length n with hlt | hge
      · have := co_trim l (n - 1)
        rw [co_out (trim l) (n - 1) (by omega)] at this
        exact absurd this.symm h1
      · omega
  apply List.ext_getElem?
  intro i
  by_cases hi : i < n
  · have e := co_trim l i
    unfold co at e
    rw [List.getElem?_take, if_pos hi, List.getElem?_eq_getElem (by omega), List.getElem?_eq_getElem (by omega)]
    rw [List.getElem?_eq_getElem (by omega), List.getElem?_eq_getElem (by omega)] at e
    simpa using e
  · rw [List.getElem?_eq_none (by omega), List.getElem?_eq_none (by simp; omega)]
theorem trim_fix (l : List Nat) (h : l = [] ∨ co l (l.length - 1) ≠ 0) : trim l = l := by
  rw [trim_of l l.length (Nat.le_refl _) (fun i hi => co_out l i hi) (by rcases h with rfl | h; exact .inl rfl; exact .inr h), List.take_length]
theorem Sm.trim {l : List Nat} (h : Sm l) : Sm (trim l) := fun i => by rw [co_trim]; exact h i

/-! ### Values -/
def ev : List Nat → Nat → Nat
  | [], _ => 0
  | a :: l, x => a ^^^ mul x (ev l x)
theorem ev_lt : ∀ (l : List Nat) (x : Nat), Sm l → ev l x < 256
  | [], _, _ => by simp [ev]
  | a :: l, x, h => Gf.xor_lt _ _ h.head (Gf.mul_lt _ _)
theorem ev_all_zero : ∀ (l : List Nat) (x : Nat), (∀ i, co l i = 0) → ev l x = 0
  | [], _, _ => rfl
  | a :: l, x, h => by
    have h0 := h 0
    rw [co_zero] at h0
    rw [ev, h0, ev_all_zero l x (fun i => by have := h (i + 1); rwa [co_succ] at this), Gf.mul_zero]; rfl
theorem ev_congr : ∀ (a b : List Nat) (x : Nat), (∀ i, co a i = co b i) → ev a x = ev b x
  | [], b, x, h => by rw [ev_all_zero b x (fun i => by rw [← h i, co_nil])]; rfl
  | x' :: a, [], x, h => by rw [ev_all_zero (x' :: a) x (fun i => by rw [h i, co_nil])]; rfl
  | x' :: a, y :: b, x, h => by
    have h0 := h 0
    rw [co_zero, co_zero] at h0
    rw [ev, ev, h0, ev_congr a b x (fun i => by have := h (i + 1); rwa [co_succ, co_succ] at this)]
theorem ev_trim (l : List Nat) (x : Nat) : ev (trim l) x = ev l x := ev_congr _ _ _ (co_trim l)
/-- The value, power by power. -/
theorem ev_pow : ∀ (l : List Nat) (x : Nat), Sm l → x < 256 → ev l x = xs l.length (fun i => mul (co l i) (Gf.pow x i))
  | [], _, _, _ => rfl
  | a :: l, x, h, hx => by
    have hl := h.tail
    rw [ev, ev_pow l x hl hx, mul_xs x _ hx _ (fun i _ => Gf.mul_lt _ _), List.length_cons, xs_shift]
    rw [co_zero, Gf.pow_zero, Gf.mul_one a h.head]
    congr 1
    apply xs_congr
    intro i _
    rw [co_succ, Gf.pow_succ x i hx, Gf.mul_comm (Gf.pow x i) x, ← Gf.mul_assoc _ _ _ (hl i) hx (Gf.pow_lt _ _), ← Gf.mul_assoc _ _ _ hx (hl i) (Gf.pow_lt _ _), Gf.mul_comm x]

/-! ### Sums -/
def addP : List Nat → List Nat → List Nat
  | [], b => b
  | a, [] => a
  | x :: a, y :: b => (x ^^^ y) :: addP a b
theorem addP_nil (a : List Nat) : addP a [] = a := by cases a <;> rfl
theorem co_addP : ∀ (a b : List Nat) (i : Nat), co (addP a b) i = co a i ^^^ co b i
  | [], b, i => by rw [addP, co_nil, Nat.zero_xor]
  | x :: a, [], i => by rw [addP_nil, co_nil, Nat.xor_zero]
  | x :: a, y :: b, 0 => by rw [addP, co_zero, co_zero, co_zero]
  | x :: a, y :: b, i + 1 => by rw [addP, co_succ, co_succ, co_succ, co_addP a b i]
theorem addP_len : ∀ (a b : List Nat), (addP a b).length = max a.length b.length
  | [], b => by simp [addP]
  | x :: a, [] => by simp [addP]
  | x :: a, y :: b => by simp only [addP, List.length_cons, addP_len a b]; omega
theorem Sm.add {a b : List Nat} (ha : Sm a) (hb : Sm b) : Sm (addP a b) := fun i => by rw [co_addP]; exact Gf.xor_lt _ _ (ha i) (hb i)
theorem ev_addP : ∀ (a b : List Nat) (x : Nat), Sm a → Sm b → x < 256 → ev (addP a b) x = ev a x ^^^ ev b x
  | [], b, x, _, _, _ => by rw [addP, ev, Nat.zero_xor]
  | y :: a, [], x, _, _, _ => by rw [addP_nil, ev, ev, Nat.xor_zero]
  | y :: a, z :: b, x, ha, hb, hx => by
    rw [addP, ev, ev, ev, ev_addP a b x ha.tail hb.tail hx, Gf.mul_add x _ _ hx (ev_lt a x ha.tail) (ev_lt b x hb.tail), xor_swap]

/-! ### Products -/
def scale (c : Nat) (l : List Nat) : List Nat := l.map (mul c)
theorem co_scale (c : Nat) (l : List Nat) (i : Nat) : co (scale c l) i = mul c (co l i) := by
  unfold co scale
  rw [List.getElem?_map]
  cases l[i]? with
  | none => simp [Gf.mul_zero]
  | some v => simp
theorem Sm.scale (c : Nat) (l : List Nat) : Sm (scale c l) := fun i => by rw [co_scale]; exact Gf.mul_lt _ _
theorem ev_scale (c : Nat) (hc : c < 256) : ∀ (l : List Nat) (x : Nat), Sm l → x < 256 → ev (scale c l) x = mul c (ev l x)
  | [], x, _, _ => (Gf.mul_zero c).symm
  | a :: l, x, h, hx => by
    show mul c a ^^^ mul x (ev (scale c l) x) = mul c (a ^^^ mul x (ev l x))
    rw [ev_scale c hc l x h.tail hx, Gf.mul_add c _ _ hc h.head (Gf.mul_lt _ _), ← Gf.mul_assoc x c _ hx hc (ev_lt l x h.tail), ← Gf.mul_assoc c x _ hc hx (ev_lt l x h.tail), Gf.mul_comm x c]
def mulP : List Nat → List Nat → List Nat
  | [], _ => []
  | x :: a, b => addP (scale x b) (0 :: mulP a b)
theorem Sm.mul (a b : List Nat) : Sm (mulP a b) := by
  induction a with
  | nil => exact Sm.nil
  | cons x a ih => exact (Sm.scale x b).add (Sm.cons (by omega) ih)
theorem ev_mulP : ∀ (a b : List Nat) (x : Nat), Sm a → Sm b → x < 256 → ev (mulP a b) x = Gf.mul (ev a x) (ev b x)
  | [], b, x, _, _, _ => (Gf.zero_mul _).symm
  | y :: a, b, x, ha, hb, hx => by
    have h0 : Sm (0 :: mulP a b) := Sm.cons (by omega) (Sm.mul a b)
    rw [mulP, ev_addP _ _ x (Sm.scale y b) h0 hx, ev_scale y ha.head b x hb hx, ev, ev, Nat.zero_xor, ev_mulP a b x ha.tail hb hx]
    rw [Gf.add_mul _ _ _ ha.head (Gf.mul_lt _ _) (ev_lt b x hb), Gf.mul_assoc x _ _ hx (ev_lt a x ha.tail) (ev_lt b x hb)]
/-- A product's coefficient, summand by summand. -/
def pc (n : Nat) (A B : Nat → Nat) (j : Nat) : Nat := xs n (fun i => if i ≤ j then mul (A i) (B (j - i)) else 0)
theorem co_mulP : ∀ (a b : List Nat) (j : Nat), co (mulP a b) j = pc a.length (co a) (co b) j
  | [], b, j => by rw [mulP, co_nil]; rfl
  | x :: a, b, 0 => by
    rw [mulP, co_addP, co_scale, co_zero, Nat.xor_zero]
    unfold pc
    rw [List.length_cons, xs_shift, if_pos (Nat.le_refl _), co_zero, xs_zero a.length (fun i _ => if_neg (by omega)), Nat.xor_zero]
  | x :: a, b, j + 1 => by
    rw [mulP, co_addP, co_scale, co_succ, co_mulP a b j]
    unfold pc
    rw [List.length_cons, xs_shift, if_pos (by omega), co_zero]
    congr 1
    apply xs_congr
    intro i _
    simp only [co_succ, Nat.add_sub_add_right, Nat.add_le_add_iff_right]
theorem pc_more (A B : Nat → Nat) (n m j : Nat) (hA : ∀ i, n ≤ i → A i = 0) (h : n ≤ m) : pc m A B j = pc n A B j := by
  obtain ⟨d, rfl⟩ : ∃ d, m = n + d := ⟨m - n, by omega⟩
  induction d with
  | zero => rfl
  | succ d ih =>
    have := ih (by omega)
    unfold pc at this ⊢
    rw [show n + (d + 1) = (n + d) + 1 from rfl, xs, this, hA (n + d) (by omega), Gf.zero_mul]
    simp
/-- A coefficient more, at one place. -/
theorem pc_update (n : Nat) (A B : Nat → Nat) (d c j : Nat) (hd : d < n) (hA : ∀ i, A i < 256) (hB : ∀ i, B i < 256) (hc : c < 256) :
    pc n (fun i => if i = d then A i ^^^ c else A i) B j = pc n A B j ^^^ (if d ≤ j then mul c (B (j - d)) else 0) := by
  have e := xs_update (fun i => if i ≤ j then mul (A i) (B (j - i)) else 0) d (if d ≤ j then mul c (B (j - d)) else 0) n hd
  unfold pc
  rw [← e]
  apply xs_congr
  intro i _
  by_cases hi : i = d
  · subst hi
    simp only [if_true]
    by_cases hj : i ≤ j
    · rw [if_pos hj, if_pos hj, if_pos hj, Gf.add_mul _ _ _ (hA i) hc (hB _)]
    · rw [if_neg hj, if_neg hj, if_neg hj]; rfl
  · simp only [if_neg hi]
theorem mulP_len (a b : List Nat) (j : Nat) (h : a.length + b.length ≤ j + 1) (hb : b ≠ []) : co (mulP a b) j = 0 := by
  have hl : 0 < b.length := List.length_pos_iff.2 hb
  rw [co_mulP]
  apply xs_zero
  intro i hi
  by_cases hj : i ≤ j
  · rw [if_pos hj, co_out b _ (by omega), Gf.mul_zero]
  · rw [if_neg hj]
theorem mulP_nil (a : List Nat) (j : Nat) : co (mulP a []) j = 0 := by
  rw [co_mulP]
  apply xs_zero
  intro i _
  rw [co_nil, Gf.mul_zero]; simp

/-! ### As many values as coefficients tell a polynomial -/
def sd (c : Nat) : List Nat → List Nat
  | [] => []
  | _ :: l => ev l c :: sd c l
theorem sd_sm (c : Nat) : ∀ (l : List Nat), Sm l → Sm (sd c l)
  | [], _ => Sm.nil
  | _ :: l, h => Sm.cons (ev_lt l c h.tail) (sd_sm c l h.tail)
theorem sd_len (c : Nat) : ∀ (l : List Nat), (sd c l).length = l.length
  | [] => rfl
  | _ :: l => by simp [sd, sd_len c l]
theorem sd_top (c : Nat) : ∀ (l : List Nat) (i : Nat), l.length ≤ i + 1 → co (sd c l) i = 0
  | [], i, _ => co_nil i
  | [_], 0, _ => by simp [sd, co, ev]
  | a :: b :: l, 0, h => by simp at h
  | _ :: l, i + 1, h => by
    rw [sd, co_succ]
    exact sd_top c l i (by simpa using h)
theorem ev_sd (c : Nat) (hc : c < 256) : ∀ (l : List Nat) (y : Nat), Sm l → y < 256 → ev l y = mul (y ^^^ c) (ev (sd c l) y) ^^^ ev l c
  | [], y, _, _ => by simp [ev, sd, Gf.mul_zero]
  | a :: l, y, h, hy => by
    have hl := h.tail
    have hv := ev_lt l c hl
    have hs := ev_lt (sd c l) y (sd_sm c l hl)
    have hx := Gf.xor_lt y c hy hc
    have ih := ev_sd c hc l y hl hy
    simp only [ev, sd]
    generalize ev l c = v at *
    generalize ev (sd c l) y = s at *
    rw [ih, Gf.mul_add y _ _ hy (Gf.mul_lt _ _) hv, Gf.mul_add _ _ _ hx hv (Gf.mul_lt _ _), Gf.add_mul y c v hy hc hv]
    rw [← Gf.mul_assoc y _ _ hy hx hs, ← Gf.mul_assoc _ y _ hx hy hs, Gf.mul_comm y (y ^^^ c)]
    generalize mul (mul (y ^^^ c) y) s = p
    generalize mul y v = q
    generalize mul c v = r
    apply Nat.eq_of_testBit_eq
    intro i
    simp only [Nat.testBit_xor]
    cases a.testBit i <;> cases p.testBit i <;> cases q.testBit i <;> cases r.testBit i <;> rfl
/-- The coefficients, out of those of the quotient by x + c. -/
theorem co_sd (c : Nat) : ∀ (l : List Nat), Sm l → ev l c = 0 → ∀ i, co l i = (if i = 0 then 0 else co (sd c l) (i - 1)) ^^^ mul c (co (sd c l) i)
  | [], _, _, i => by
    rw [sd, co_nil, co_nil, Gf.mul_zero]; split <;> simp
  | a :: l, h, h0, 0 => by
    have : a ^^^ mul c (ev l c) = 0 := h0
    rw [if_pos rfl, co_zero, sd, co_zero, Nat.zero_xor]
    exact Gf.xor_zero_iff _ _ this
  | a :: l, h, h0, i + 1 => by
    rw [if_neg (by omega), co_succ, sd, Nat.add_sub_cancel, co_succ]
    have key : ∀ (l : List Nat) (i : Nat), Sm l → co l i = (if i = 0 then ev l c else co (sd c l) (i - 1)) ^^^ mul c (co (sd c l) i) := by
      intro l
      induction l with
      | nil => intro i _; rw [sd, co_nil, co_nil, Gf.mul_zero]; cases i <;> simp [ev]
      | cons b l ih =>
        intro i hs
        cases i with
        | zero =>
          rw [if_pos rfl, co_zero, sd, co_zero]
          show b = (b ^^^ mul c (ev l c)) ^^^ mul c (ev l c)
          rw [Nat.xor_assoc, Nat.xor_self, Nat.xor_zero]
        | succ i =>
          rw [if_neg (by omega), co_succ, sd, Nat.add_sub_cancel, co_succ, ih i hs.tail]
          cases i with
          | zero => rw [if_pos rfl, co_zero]
          | succ i => rw [if_neg (by omega), Nat.add_sub_cancel, co_succ]
    rw [key l i h.tail]
    cases i with
    | zero => rw [if_pos rfl, co_zero]
    | succ i => rw [if_neg (by omega), Nat.add_sub_cancel, co_succ]
theorem roots : ∀ (n : Nat) (l ps : List Nat), ps.length = n → ps.Nodup → (∀ p ∈ ps, p < 256) → Sm l → (∀ i, n ≤ i → co l i = 0) → (∀ p ∈ ps, ev l p = 0) → ∀ i, co l i = 0
  | 0, l, ps, _, _, _, _, hz, _, i => hz i (by omega)
  | n + 1, l, [], hn, _, _, _, _, _, _ => by simp at hn
  | n + 1, l0, c :: ps, hn, hd, hp, hs, hz, hr, i => by
    -- the list, cut to n + 1 coefficients
    have hc : c < 256 := hp c (by simp)
    let l := l0.take (n + 1)
    have hco : ∀ i, co l i = co l0 i := fun i => by
      show co (l0.take (n + 1)) i = co l0 i
      unfold co
      rw [List.getElem?_take]
      by_cases h : i < n + 1
      · rw [if_pos h]
      · rw [if_neg h]
        have := hz i (by omega)
        unfold co at this
        simpa using this.symm
    have hlen : l.length ≤ n + 1 := by simp [l]; omega
    have hsl : Sm l := fun i => by rw [hco]; exact hs i
    have hev : ∀ x, ev l x = ev l0 x := fun x => ev_congr _ _ _ hco
    have hq := sd_sm c l hsl
    have h0 : ev l c = 0 := by rw [hev]; exact hr c (by simp)
    have ih := roots n (sd c l) ps (by simpa using hn) (List.nodup_cons.1 hd).2 (fun p h => hp p (by simp [h])) hq
      (fun i hi => sd_top c l i (by omega)) (fun p h => by
        have hpl : p < 256 := hp p (by simp [h])
        have e := ev_sd c hc l p hsl hpl
        rw [h0, Nat.xor_zero, hev, hr p (by simp [h])] at e
        have hne : p ^^^ c ≠ 0 := fun k => (List.nodup_cons.1 hd).1 (by rw [← Gf.xor_zero_iff p c k]; exact h)
        exact Decidable.byContradiction fun hk => Gf.mul_ne _ _ hne hk e.symm)
    rw [← hco, co_sd c l hsl h0 i, ih i, Gf.mul_zero, Nat.xor_zero]
    split
    · rfl
    · exact ih _
/-- Two polynomials of fewer coefficients than places at which they meet are one. -/
theorem meet (n : Nat) (a b ps : List Nat) (hn : ps.length = n) (hd : ps.Nodup) (hp : ∀ p ∈ ps, p < 256) (ha : Sm a) (hb : Sm b)
    (hla : ∀ i, n ≤ i → co a i = 0) (hlb : ∀ i, n ≤ i → co b i = 0) (h : ∀ p ∈ ps, ev a p = ev b p) : ∀ i, co a i = co b i := fun i => by
  have := roots n (addP a b) ps hn hd hp (ha.add hb) (fun i hi => by rw [co_addP, hla i hi, hlb i hi]; rfl)
    (fun p hpm => by rw [ev_addP a b p ha hb (hp p hpm), h p hpm, Nat.xor_self]) i
  rw [co_addP] at this
  exact Gf.xor_zero_iff _ _ this

/-! ### Products are linear, and degrees add up -/
theorem pc_add_left (n : Nat) (A C B : Nat → Nat) (j : Nat) (hA : ∀ i, A i < 256) (hC : ∀ i, C i < 256) (hB : ∀ i, B i < 256) :
    pc n (fun i => A i ^^^ C i) B j = pc n A B j ^^^ pc n C B j := by
  unfold pc
  rw [← xs_add]
  apply xs_congr
  intro i _
  by_cases h : i ≤ j
  · simp only [if_pos h]; exact Gf.add_mul _ _ _ (hA i) (hC i) (hB _)
  · simp only [if_neg h]; rfl
theorem pc_add_right (n : Nat) (A B C : Nat → Nat) (j : Nat) (hA : ∀ i, A i < 256) (hB : ∀ i, B i < 256) (hC : ∀ i, C i < 256) :
    pc n A (fun i => B i ^^^ C i) j = pc n A B j ^^^ pc n A C j := by
  unfold pc
  rw [← xs_add]
  apply xs_congr
  intro i _
  by_cases h : i ≤ j
  · simp only [if_pos h]; exact Gf.mul_add _ _ _ (hA i) (hB _) (hC _)
  · simp only [if_neg h]; rfl
theorem co_mulP_of (a b : List Nat) (n j : Nat) (h : a.length ≤ n) : co (mulP a b) j = pc n (co a) (co b) j := by
  rw [co_mulP, pc_more (co a) (co b) a.length n j (fun i hi => co_out a i hi) h]
theorem pc_congr {A A' B B' : Nat → Nat} (n j : Nat) (hA : ∀ i, A i = A' i) (hB : ∀ i, B i = B' i) : pc n A B j = pc n A' B' j := by
  unfold pc
  apply xs_congr
  intro i _
  rw [hA, hB]
theorem mulP_congr (a b a' b' : List Nat) (ha : ∀ i, co a i = co a' i) (hb : ∀ i, co b i = co b' i) (j : Nat) : co (mulP a b) j = co (mulP a' b') j := by
  rw [co_mulP_of a b (max a.length a'.length) j (by omega), co_mulP_of a' b' (max a.length a'.length) j (by omega)]
  exact pc_congr _ _ ha hb
theorem mulP_add_left (a c b : List Nat) (ha : Sm a) (hc : Sm c) (hb : Sm b) (j : Nat) : co (mulP (addP a c) b) j = co (mulP a b) j ^^^ co (mulP c b) j := by
  rw [co_mulP_of (addP a c) b (max a.length c.length) j (by rw [addP_len]; omega), co_mulP_of a b (max a.length c.length) j (by omega), co_mulP_of c b (max a.length c.length) j (by omega)]
  rw [← pc_add_left _ _ _ _ _ ha hc hb]
  exact pc_congr _ _ (co_addP a c) (fun _ => rfl)
theorem mulP_add_right (a b c : List Nat) (ha : Sm a) (hb : Sm b) (hc : Sm c) (j : Nat) : co (mulP a (addP b c)) j = co (mulP a b) j ^^^ co (mulP a c) j := by
  rw [co_mulP, co_mulP, co_mulP, ← pc_add_right _ _ _ _ _ ha hb hc]
  exact pc_congr _ _ (fun _ => rfl) (co_addP b c)
theorem xs_single (f : Nat → Nat) (d : Nat) : ∀ n, d < n → (∀ i, i < n → i ≠ d → f i = 0) → xs n f = f d
  | 0, h, _ => by omega
  | n + 1, h, hz => by
    rw [xs]
    by_cases e : d = n
    · subst e; rw [xs_zero d (fun i hi => hz i (by omega) (by omega)), Nat.zero_xor]
    · rw [xs_single f d n (by omega) (fun i hi => hz i (by omega)), hz n (by omega) (fun h => e h.symm), Nat.xor_zero]
theorem mulP_top (a b : List Nat) (da db : Nat) (ha : ∀ i, da < i → co a i = 0) (hb : ∀ i, db < i → co b i = 0) : co (mulP a b) (da + db) = mul (co a da) (co b db) := by
  rw [co_mulP_of a b (max a.length (da + 1)) _ (by omega)]
  unfold pc
  rw [xs_single _ da _ (by omega), if_pos (by omega), Nat.add_sub_cancel_left]
  intro i _ hne
  rcases Nat.lt_or_gt_of_ne hne with h | h
  · rw [if_pos (by omega), hb _ (by omega), Gf.mul_zero]
  · rw [ha i h, Gf.zero_mul]; simp
theorem mulP_above (a b : List Nat) (da db : Nat) (ha : ∀ i, da < i → co a i = 0) (hb : ∀ i, db < i → co b i = 0) (j : Nat) (hj : da + db < j) : co (mulP a b) j = 0 := by
  rw [co_mulP]
  apply xs_zero
  intro i _
  by_cases h : da < i
  · rw [ha i h, Gf.zero_mul]; simp
  · by_cases k : i ≤ j
    · rw [if_pos k, hb _ (by omega), Gf.mul_zero]
    · rw [if_neg k]
/-- The greatest place of a coefficient that is not 0. -/
theorem top_of (l : List Nat) (h : trim l ≠ []) : co l ((trim l).length - 1) ≠ 0 ∧ ∀ i, (trim l).length - 1 < i → co l i = 0 :=
  ⟨trim_last l h, fun i hi => by rw [← co_trim, co_out _ i (by omega)]⟩
theorem trim_nil_iff (l : List Nat) : trim l = [] ↔ ∀ i, co l i = 0 :=
  ⟨fun h i => by rw [← co_trim, h, co_nil], fun h => trim_ext l [] (fun i => by rw [h i, co_nil])⟩
theorem trim_len_top (l : List Nat) (d : Nat) (h : co l d ≠ 0) (hz : ∀ i, d < i → co l i = 0) : (trim l).length = d + 1 := by
  have h1 := trim_le l (d + 1) (fun i hi => hz i (by omega))
  rcases Nat.lt_or_ge (trim l).length (d + 1) with hlt | hge
  · exact absurd (by rw [← co_trim, co_out _ d (by omega)]) h
  · omega
/-- Quotient and rest are told by what they make. -/
theorem div_one (q a b r : List Nat) (db : Nat) (hq : Sm q) (ha : Sm a) (hb : Sm b) (hb0 : co b db ≠ 0) (hbz : ∀ i, db < i → co b i = 0) (hr : ∀ i, db ≤ i → co r i = 0)
    (h : ∀ j, co (mulP q b) j ^^^ co r j = co (mulP a b) j) : (∀ i, co q i = co a i) ∧ ∀ i, co r i = 0 := by
  have hd : ∀ j, co (mulP (addP q a) b) j = co r j := fun j => by
    rw [mulP_add_left q a b hq ha hb, ← h j, ← Nat.xor_assoc, Nat.xor_self, Nat.zero_xor]
  have hz : ∀ i, co (addP q a) i = 0 := by
    refine (trim_nil_iff _).1 (Decidable.byContradiction fun hne => ?_)
    obtain ⟨t1, t2⟩ := top_of _ hne
    have := mulP_top (addP q a) b _ db t2 hbz
    rw [hd, hr _ (by omega)] at this
    exact Gf.mul_ne _ _ t1 hb0 this.symm
  have hqa : ∀ i, co q i = co a i := fun i => Gf.xor_zero_iff _ _ (by rw [← co_addP]; exact hz i)
  refine ⟨hqa, fun i => ?_⟩
  have e := h i
  rw [mulP_congr q b a b hqa (fun _ => rfl)] at e
  have := Gf.xor_zero_iff (co (mulP a b) i ^^^ co r i) (co (mulP a b) i) (by rw [e, Nat.xor_self])
  have k : co r i = co (mulP a b) i ^^^ (co (mulP a b) i ^^^ co r i) := by rw [← Nat.xor_assoc, Nat.xor_self, Nat.zero_xor]
  rw [k, this, Nat.xor_self]
theorem div_two (q q' b r r' : List Nat) (db : Nat) (hq : Sm q) (hq' : Sm q') (hb : Sm b) (hb0 : co b db ≠ 0) (hbz : ∀ i, db < i → co b i = 0) (hr : ∀ i, db ≤ i → co r i = 0) (hr' : ∀ i, db ≤ i → co r' i = 0)
    (h : ∀ j, co (mulP q b) j ^^^ co r j = co (mulP q' b) j ^^^ co r' j) : (∀ i, co q i = co q' i) ∧ ∀ i, co r i = co r' i := by
  have := div_one q q' b (addP r r') db hq hq' hb hb0 hbz (fun i hi => by rw [co_addP, hr i hi, hr' i hi]; rfl) (fun j => by
    rw [co_addP, ← Nat.xor_assoc, h j, Nat.xor_assoc, Nat.xor_self, Nat.xor_zero])
  exact ⟨this.1, fun i => Gf.xor_zero_iff _ _ (by rw [← co_addP]; exact this.2 i)⟩
end Pol

/-
  Small laws on worlds and on operations over whole arrays, of no program in particular: what is new, what stays, a load and a store of a whole array, a struct that is built of two arrays. Conditions: none.
-/
namespace Go.Proofs.Ytjifionpblpfoaa
open Go.RowKit

theorem ret_int {k : IntKind} {a b : Int} (h : a = b) : Ending.returned (.int k a) = .returned (.int k b) := by rw [h]

theorem ret_two {k k' : IntKind} {a b c : Int} (h : a = b) : Ending.returned (.tuple #[.int k a, .int k' c]) = .returned (.tuple #[.int k b, .int k' c]) := by rw [h]

/-- A call that hands back v and changes nothing but how often the tape was asked. -/
def Hands (v : Value) (w : World) (e : Ending) (w' : World) : Prop := e = .returned v ∧ ∃ n, w' = w.drewN n

theorem nat_u8 {n : Int} (h : (Lit.int .u8 n).wf = true) : ∃ x : Nat, n = (x : Int) ∧ x < 256 := by
  have := bounds_u8 h
  exact ⟨n.toNat, by omega, by omega⟩
theorem nat_u32 {n : Int} (h : (Lit.int .u32 n).wf = true) : ∃ x : Nat, n = (x : Int) ∧ x < 4294967296 := by
  have := bounds_u32 h
  exact ⟨n.toNat, by omega, by omega⟩
theorem nat_u64 {n : Int} (h : (Lit.int .u64 n).wf = true) : ∃ x : Nat, n = (x : Int) ∧ x < 18446744073709551616 := by
  have := bounds_u64 h
  exact ⟨n.toNat, by omega, by omega⟩

/-- New blocks alone: nothing that was there has changed. -/
structure Ext (w w' : World) : Prop where
  below : Below w.heap.size w w'
theorem Ext.refl (w : World) : Ext w w := ⟨Below.refl _ _⟩
theorem Ext.size {w w' : World} (h : Ext w w') : w.heap.size ≤ w'.heap.size := h.below.size
theorem Ext.trans {a b c : World} (h : Ext a b) (k : Ext b c) : Ext a c := ⟨h.below.trans (k.below.mono h.size)⟩
theorem Ext.alloc {a w : World} (h : Ext a w) (o : Obj) : Ext a (w.alloc o) := ⟨h.below.alloc h.size o⟩
theorem Ext.drewN {a w : World} (h : Ext a w) (n : Nat) : Ext a (w.drewN n) := ⟨⟨h.below.os, h.below.tape, h.below.output, h.below.size, h.below.block⟩⟩
theorem Ext.drew {a w : World} (h : Ext a w) : Ext a w.drew := h.drewN 1
theorem Ext.setCell {a w : World} (h : Ext a w) {p : Addr} (hp : a.heap.size ≤ p.block) (v : Value) : Ext a (w.setCell p v) := ⟨h.below.setCell hp v⟩
theorem Ext.setRow {a w : World} (h : Ext a w) {g : Nat} (hg : a.heap.size ≤ g) (c : Array Value) : Ext a (w.setRow g c) :=
  ⟨h.below.trans ⟨rfl, rfl, rfl, by simp, fun k hk => setRow_other w g k c (by omega)⟩⟩
/-- Behind a law that ends in 'grownBy': what was written is new. -/
theorem Ext.more {a w w' : World} {row : Option Nat} (h : Ext a w) (hg : w.grownBy w' row) (hr : ∀ k, row = some k → a.heap.size ≤ k) : Ext a w' := ⟨h.below.grown hg h.size hr⟩

/-- The law answers true; nothing that was there has changed. -/
def Holds (w : World) (e : Ending) (w' : World) : Prop := e = .returned (.bool true) ∧ Ext w w'

theorem quiet_same {P : Program} {f : FuncId} {args : Array Value} {w : World} {n : Nat} {v : Value}
    (h : Calls P f args (w.drewN n) fun e w' => e = .returned v ∧ w.drewN n = w') : Calls P f args (w.drewN n) fun e w'' => e = .returned v ∧ ∃ m, w'' = w.drewN m :=
  h.mono fun _ _ ⟨he, hm⟩ => ⟨he, n, hm.symm⟩
theorem quiet_hands {P : Program} {f : FuncId} {args : Array Value} {w : World} {n : Nat} {v : Value}
    (h : Calls P f args (w.drewN n) (Hands v (w.drewN n))) : Calls P f args (w.drewN n) fun e w'' => e = .returned v ∧ ∃ m, w'' = w.drewN m :=
  h.mono fun _ _ ⟨he, m, hm⟩ => ⟨he, n + m, by rw [hm, World.drewN_drewN]⟩

section
variable {P : Program} {ops : Array Oper} {C : World → Prop} {Q : Act → Prop}
theorem wpQuiet_load {o : Oper} {rest : List Oper} {a : Act} (hgd : o.guard = none) (ty : TypeId) (x : Operand) (ho : o.op = .load ty x) (v : Value)
    (hrun : ∀ w, C w → (Instr.loadAt ty (a.eval x)).run P w = .ok v w) (h : wpQuiet P ops C Q rest (a.put o.dst v)) : wpQuiet P ops C Q (o :: rest) a := by
  unfold wpQuiet
  rw [if_pos (by simp [Region.wanted, hgd])]
  refine ⟨v, fun w hw => ?_, h⟩
  unfold Oper.quietAt
  simp only [execOp, ho, Sem.run_bind, hrun w hw, Result.andThen, Sem.run_pure]
  exact ⟨rfl, rfl⟩
theorem wpQuiet_store {o : Oper} {rest : List Oper} {a : Act} (hgd : o.guard = none) (ty : TypeId) (x y : Operand) (ho : o.op = .store ty x y)
    (hrun : ∀ w, C w → (Instr.storeAt ty (a.eval x) (a.eval y)).run P w = .ok () w) (h : wpQuiet P ops C Q rest (a.put o.dst undef)) : wpQuiet P ops C Q (o :: rest) a := by
  unfold wpQuiet
  rw [if_pos (by simp [Region.wanted, hgd])]
  refine ⟨undef, fun w hw => ?_, h⟩
  unfold Oper.quietAt
  simp only [execOp, ho, Sem.run_bind, hrun w hw, Result.andThen, Sem.run_pure]
  exact ⟨rfl, rfl⟩
theorem setRow_same (w : World) (b : Nat) (c : Array Value) (t : TypeId) (hg : w.heap[b]? = some (.cells c t (0, 0))) : w.setRow b c = w := by
  cases w with
  | _ =>
    simp only [World.setRow] at hg ⊢
    congr 1
    apply Array.ext_getElem?
    intro i
    rw [Array.getElem?_modify]
    split
    · rename_i e; subst e; rw [hg]; rfl
    · rfl
theorem run_store_back (w : World) (b : Nat) (t : TypeId) (c : Array Value) (hg : w.heap[b]? = some (.cells c t (0, 0))) (hi : (P.info? t).map (·.size) = some c.size) (h1 : c.all (·.oneCell') = true) :
    (Instr.storeAt t (.pointer (some ⟨b, 0, none⟩)) (.agg c)).run P w = .ok () w := by
  simp only [Instr.storeAt, Instr.sureAddr, Sem.run_bind, Sem.run_pure, Result.andThen]
  rw [run_storeVar_row w b t t c c hg hi rfl h1, setRow_same w b c t hg]
theorem run_load_all (w : World) (b : Nat) (t : TypeId) (c : Array Value) (n : Nat) (e : TypeId) (hu : P.underlying t = some (.array n e)) (hg : w.heap[b]? = some (.cells c t (0, 0))) (hi : (P.info? t).map (·.size) = some c.size) :
    (Instr.loadAt t (.pointer (some ⟨b, 0, none⟩))).run P w = .ok (.agg c) w := by
  simp only [Instr.loadAt, Instr.sureAddr, Sem.run_bind, Sem.run_pure, Result.andThen]
  exact run_loadVar_row w b t t c (0, 0) _ hg hu rfl hi
theorem results_cell_cell {fn : Func} {p u : Tmp} {ty tz : TypeId} (h : fn.results = #[.cell p ty, .cell u tz]) (tmps : Array Value) (P : Program) (w : World) :
    (results fn tmps).run P w =
      ((asAddr (tmps.getD p undef)).run P w).andThen fun a w₁ => ((loadVar ty a).run P w₁).andThen fun v w₂ =>
        ((asAddr (tmps.getD u undef)).run P w₂).andThen fun b w₃ => ((loadVar tz b).run P w₃).andThen fun z w₄ => .ok (.tuple #[v, z]) w₄ := by
  simp only [results, h]
  simp [Sem.run_bind, Result.andThen]
end

/-! ### A struct that is built of two arrays -/
theorem fold_at (off : Nat) : ∀ (l : List Value) (k : Nat) (base : Array Value) (i : Nat),
    ((l.zipIdx k).foldl (fun cs x => cs.setIfInBounds (off + x.2) x.1) base)[i]? = if off + k ≤ i ∧ i < off + k + l.length ∧ i < base.size then l[i - (off + k)]? else base[i]?
  | [], k, base, i => by
    rw [if_neg (by simp; omega)]; rfl
  | c :: l, k, base, i => by
    simp only [List.zipIdx_cons, List.foldl_cons]
    rw [fold_at off l (k + 1) (base.setIfInBounds (off + k) c) i]
    simp only [Array.size_setIfInBounds, List.length_cons, Array.getElem?_setIfInBounds]
    by_cases h1 : off + k = i
    · subst h1
      rw [if_neg (by omega), if_pos rfl]
      by_cases h2 : off + k < base.size
      · rw [if_pos h2, if_pos ⟨Nat.le_refl _, by omega, h2⟩]; simp
      · rw [if_neg h2, if_neg (by omega)]
        rw [Array.getElem?_eq_none (by omega)]
    · rw [if_neg h1]
      by_cases h2 : off + (k + 1) ≤ i ∧ i < off + (k + 1) + l.length ∧ i < base.size
      · rw [if_pos h2, if_pos (by omega)]
        rw [show i - (off + k) = (i - (off + (k + 1))) + 1 from by omega, List.getElem?_cons_succ]
      · rw [if_neg h2, if_neg (by omega)]

theorem fold_size (off : Nat) : ∀ (l : List (Value × Nat)) (base : Array Value), (l.foldl (fun cs x => cs.setIfInBounds (off + x.2) x.1) base).size = base.size
  | [], _ => rfl
  | c :: l, base => by rw [List.foldl_cons, fold_size off l]; simp

def putIn (off : Nat) (p base : Array Value) : Array Value := p.zipIdx.foldl (fun cs x => cs.setIfInBounds (off + x.2) x.1) base
theorem putIn_at (off : Nat) (p base : Array Value) (i : Nat) : (putIn off p base)[i]? = if off ≤ i ∧ i < off + p.size ∧ i < base.size then p[i - off]? else base[i]? := by
  have h := fold_at off p.toList 0 base i
  unfold putIn
  rw [← Array.foldl_toList, Array.toList_zipIdx, h]
  simp
theorem putIn_size (off : Nat) (p base : Array Value) : (putIn off p base).size = base.size := by
  unfold putIn
  rw [← Array.foldl_toList, fold_size]
theorem wpList_store_all {P : Program} {ops : Array Oper} {rest : List Oper} {op : Oper} {a : Act} {w : World} {Q : Exit → Act → World → Prop} (hgd : op.guard = none) (ty : TypeId) (x y : Operand) (ho : op.op = .store ty x y)
    (b : Nat) (c c' : Array Value) (hx : a.eval x = .pointer (some ⟨b, 0, none⟩)) (hy : a.eval y = .agg c')
    (hg : w.heap[b]? = some (.cells c ty (0, 0))) (hi : (P.info? ty).map (·.size) = some c'.size) (hc : c.size = c'.size) (h1 : c'.all (·.oneCell') = true)
    (h : wpList P ops Q rest (a.put op.dst undef) (w.setRow b c')) : wpList P ops Q (op :: rest) a w :=
  wpList_plain hgd fun _ hK => by
    unfold Oper.wp execOp
    simp only [ho, hx, hy, Instr.storeAt, Instr.sureAddr, Sem.run_bind, Sem.run_pure, Result.andThen_ok, run_storeVar_row w b ty ty c c' hg hi hc h1]
    exact hK _ _ h

theorem wpList_build_of {P : Program} {ops : Array Oper} {rest : List Oper} {op : Oper} {a : Act} {w : World} {Q : Exit → Act → World → Prop} (hgd : op.guard = none) (t : TypeId) (parts : Array (Nat × Operand)) (ho : op.op = .build t parts)
    (vs : Array (Nat × Value)) (hv : (parts.map fun (i, x) => (i, a.eval x)) = vs) (F : Array Value) (hF : P.built t vs.toList = some F)
    (h : wpList P ops Q rest (a.put op.dst (.agg F)) w) : wpList P ops Q (op :: rest) a w :=
  wpList_plain hgd fun _ hK => by
    unfold Oper.wp execOp
    simp only [ho, hv, Sem.run_bind, run_build w t vs F hF, Result.andThen_ok, Sem.run_pure]
    exact hK _ _ h
theorem wpList_box_of {P : Program} {ops : Array Oper} {rest : List Oper} {op : Oper} {a : Act} {w : World} {Q : Exit → Act → World → Prop} (hgd : op.guard = none) (t : TypeId) (x : Operand) (ho : op.op = .box t x)
    (F : Array Value) (hx : a.eval x = .agg F)
    (h : wpList P ops Q rest (a.put op.dst (.pointer (some ⟨w.heap.size, 0, none⟩))) (w.alloc (.cells F t))) : wpList P ops Q (op :: rest) a w :=
  wpList_plain hgd fun _ hK => by
    have hr : (Instr.box t (.agg F)).run P w = .ok (.pointer (some ⟨w.heap.size, 0, none⟩)) (w.alloc (.cells F t)) := by
      simp [Instr.box, newVar, Value.cells, go_sem]
    unfold Oper.wp execOp
    simp only [ho, hx, Sem.run_bind, hr, Result.andThen_ok, Sem.run_pure]
    exact hK _ _ h

end Go.Proofs.Ytjifionpblpfoaa

/-
  Slices of bytes that read as a list: what it means, and that it stays while only new blocks are laid. Conditions: none.
-/
namespace Go.Proofs.Ytjifionpblpfoaa
open Go.RowKit
open Pol (co Sm)

/-- From address A on lie the bytes l. -/
def Rd (w : World) (A : Option Addr) (l : List Nat) : Prop :=
  Sm l ∧ ∀ i, i < l.length → ∃ b o, A = some ⟨b, o, none⟩ ∧ w.cell? ⟨b, o + i, none⟩ = some (.int .u8 ((co l i : Nat) : Int))
theorem Rd.ext {w w' : World} {A : Option Addr} {l : List Nat} (h : Rd w A l) (hx : Ext w w') : Rd w' A l :=
  ⟨h.1, fun i hi => by
    obtain ⟨b, o, e, hc⟩ := h.2 i hi
    exact ⟨b, o, e, (hx.below.cell (p := ⟨b, o + i, none⟩) (block_lt_of_cell hc)).trans hc⟩⟩
theorem Rd.drewN {w : World} {A : Option Addr} {l : List Nat} (h : Rd w A l) (n : Nat) : Rd (w.drewN n) A l := h
theorem Rd.nil (w : World) (A : Option Addr) : Rd w A [] := ⟨Sm.nil, fun i hi => absurd hi (by simp)⟩
theorem Rd.addr {w : World} {A : Option Addr} {l : List Nat} (h : Rd w A l) (hl : 0 < l.length) : ∃ b o, A = some ⟨b, o, none⟩ ∧ ∀ i, i < l.length → w.cell? ⟨b, o + i, none⟩ = some (.int .u8 ((co l i : Nat) : Int)) := by
  obtain ⟨b, o, rfl, _⟩ := h.2 0 hl
  refine ⟨b, o, rfl, fun i hi => ?_⟩
  obtain ⟨b', o', e, hc⟩ := h.2 i hi
  injection e with e
  injection e with e1 e2
  subst e1; subst e2
  exact hc

/-- A call that hands back v; all else is as it was. -/
def Tells (v : Value) (w : World) (e : Ending) (w' : World) : Prop := e = .returned v ∧ Ext w w'
theorem Hands.tells {v : Value} {w : World} {e : Ending} {w' : World} (h : Hands v w e w') : Tells v w e w' := by
  obtain ⟨he, n, rfl⟩ := h
  exact ⟨he, (Ext.refl _).drewN n⟩
end Go.Proofs.Ytjifionpblpfoaa

/-
  What append and make do with slices of bytes of a call's own, in terms of the lists that they read as. Conditions: the lengths add up to no more than 2^40.
-/
namespace Go.Proofs.Ytjifionpblpfoaa
open Go.RowKit
open Pol (co Sm)

theorem u8_info : (Try.prog.info? 5).map (fun i => (i.zero, i.size, i.bytes)) = some (some (.int .u8 0), 1, 1) := by kernel_rfl
/-- Bytes as values. -/
def bv (l : List Nat) : List Value := l.map fun x : Nat => Value.int .u8 (x : Int)
theorem bv_len (l : List Nat) : (bv l).length = l.length := by simp [bv]
theorem bv_at (l : List Nat) (i : Nat) (h : i < l.length) : (bv l)[i]? = some (.int .u8 ((co l i : Nat) : Int)) := by
  simp [bv, co, List.getElem?_eq_getElem h]
theorem bv_one (l : List Nat) : ∀ u ∈ bv l, u.oneCell' = true := by
  intro u hu
  obtain ⟨x, _, rfl⟩ := List.mem_map.1 hu
  rfl
theorem bv_append (l m : List Nat) : bv (l ++ m) = bv l ++ bv m := by simp [bv]
/-- A slice of the call's own, of the bytes l. -/
def Mine (w : World) (base : Nat) (v : Value) (l : List Nat) : Prop := w.ownsRow base 5 1 v l.length (bv l)
theorem Mine.slice {w : World} {base : Nat} {v : Value} {l : List Nat} (h : Mine w base v l) (hs : Sm l) : ∃ B c, v = .slice B l.length c ∧ l.length ≤ c ∧ Rd w B l := by
  rcases h.2 with ⟨rfl, hn⟩ | ⟨g, cap, cur, rfl, _, hg, hnc, _, _, htake⟩
  · have : l = [] := List.eq_nil_of_length_eq_zero hn
    subst this
    exact ⟨none, 0, rfl, Nat.le_refl _, Rd.nil _ _⟩
  · refine ⟨_, cap, rfl, hnc, hs, fun i hi => ⟨g, 0, rfl, ?_⟩⟩
    rw [Nat.zero_add, cell_of_row w g i cur _ _ hg, ← bv_at l i hi, ← htake, List.getElem?_take, if_pos (by omega)]
    simp
theorem addr_add (b o j : Nat) : (⟨b, o, none⟩ : Addr).add j = ⟨b, o + j, none⟩ := Addr.add_mid b o j

set_option maxRecDepth 100000 in
theorem run_append_rd (w : World) (base : Nat) (ty : TypeId) (v : Value) (l m : List Nat) (hown : Mine w base v l) (A : Option Addr) (c : Nat) (hr : Rd w A m)
    (hlen : l.length + m.length ≤ 140737488355328) (hbase : base ≤ w.heap.size) :
    ∃ v' w', (Builtin.append_ #[23, 23] ty #[v, .slice A m.length c]).run Try.prog w = .ok v' w' ∧ Mine w' base v' (l ++ m) ∧ w.grownBy w' v.ownBlock ∧ (v'.ownBlock = v.ownBlock ∨ v'.ownBlock = some w.heap.size) := by
  obtain ⟨i0, hi, hz0, hz1, hz2⟩ := info_parts u8_info
  cases A with
  | none =>
    have hm : m = [] := by
      rcases Nat.eq_zero_or_pos m.length with h | h
      · exact List.eq_nil_of_length_eq_zero h
      · obtain ⟨_, _, e, _⟩ := hr.2 0 h; cases e
    subst hm
    refine ⟨v, w, ?_, by simpa using hown, ⟨rfl, rfl, rfl, Nat.le_refl _, fun _ _ _ => rfl⟩, .inl rfl⟩
    rcases hown.2 with ⟨rfl, _⟩ | ⟨g, cap, cur, rfl, _, _, hnc, _⟩
    · simp [Builtin.append_, run_underlying Try.underlying23, sizeOf, typeInfo, hi, Builtin.lenOf, Builtin.firstCells]
    · simp [Builtin.append_, run_underlying Try.underlying23, sizeOf, typeInfo, hi, Builtin.lenOf, Builtin.firstCells, hnc, storeCells]
  | some a =>
    have hcells : ∀ j u, (bv m)[j]? = some u → w.cell? (a.add j) = some u := by
      intro j u hu
      have hj : j < m.length := by
        have := (List.getElem?_eq_some_iff.1 hu).1
        rwa [bv_len] at this
      obtain ⟨b, o, e, hc⟩ := hr.2 j hj
      injection e with e
      subst e
      rw [addr_add, hc, ← bv_at m j hj, hu]
    obtain ⟨v', w', h1, h2, h3, _, h5⟩ := run_append_own_at (P := Try.prog) w base 23 ty 5 i0 (.int .u8 0) 1 1 Try.underlying23 hi hz0 hz1 hz2 rfl (by omega) v l.length (bv l) hown a m.length c (bv m) (by rw [bv_len, Nat.mul_one]) hcells (bv_one m)
      (by unfold maxLen; omega) (by omega) hbase
    exact ⟨v', w', h1, by unfold Mine; rw [List.length_append, bv_append]; exact h2, h3, h5⟩

/-- At the operation, for the walk. -/
theorem wpList_append_rd {ops : Array Oper} {rest : List Oper} {o : Oper} {a : Act} {w : World} {Q : Exit → Act → World → Prop} (hgd : o.guard = none) (s x : Operand)
    (ho : o.op = .call { callee := .builtin .append, args := #[s, x], argTypes := #[23, 23] })
    (base : Nat) (v : Value) (l m : List Nat) (hs : a.eval s = v) (hown : Mine w base v l) (A : Option Addr) (n c : Nat) (hx : a.eval x = .slice A n c) (hn : m.length = n) (hr : Rd w A m)
    (hlen : l.length + m.length ≤ 140737488355328) (hbase : base ≤ w.heap.size)
    (h : ∀ v' w', Mine w' base v' (l ++ m) → w.grownBy w' v.ownBlock → (v'.ownBlock = v.ownBlock ∨ v'.ownBlock = some w.heap.size) → wpList Try.prog ops Q rest (a.put o.dst v') w') :
    wpList Try.prog ops Q (o :: rest) a w := by
  subst hn
  refine wpList_plain hgd fun K hK => ?_
  obtain ⟨v', w', hrun, h2, h3, h4⟩ := run_append_rd w base o.type v l m hown A c hr hlen hbase
  unfold Oper.wp execOp
  simp only [ho, resolve, invoke, builtin, Sem.run_bind, Sem.run_pure, Result.andThen_ok, List.map_toArray, List.map_cons, List.map_nil, hs, hx, hrun]
  exact hK _ _ (h v' w' h2 h3 h4)

/-- A call that hands back a slice that reads as l; all else is as it was. -/
def Gives (l : List Nat) (w : World) (e : Ending) (w' : World) : Prop := ∃ B c, e = .returned (.slice B l.length c) ∧ l.length ≤ c ∧ Rd w' B l ∧ Ext w w'
theorem gives_of {w w' : World} {base : Nat} {v : Value} {l m : List Nat} (hm : Mine w' base v l) (hl : l = m) (hs : Sm m) (hx : Ext w w') : Gives m w (.returned v) w' := by
  subst hl
  obtain ⟨B, c, rfl, hc, hr⟩ := hm.slice hs
  exact ⟨B, c, rfl, hc, hr, hx⟩
theorem Rd.take {w : World} {A : Option Addr} {l : List Nat} (h : Rd w A l) (k : Nat) : Rd w A (l.take k) := by
  refine ⟨Pol.co_lt_of fun x hx => h.1.mem x (List.mem_of_mem_take hx), fun i hi => ?_⟩
  have hk : i < k ∧ i < l.length := by rw [List.length_take] at hi; omega
  obtain ⟨b, o, e, hc⟩ := h.2 i hk.2
  refine ⟨b, o, e, ?_⟩
  rw [hc]
  unfold co
  rw [List.getElem?_take, if_pos hk.1]
theorem mine_empty (w : World) : Mine (w.alloc (.cells #[] 5)) w.heap.size (.slice (some ⟨w.heap.size, 0, none⟩) 0 0) [] := World.ownsRow_lit w #[] 0 (Nat.le_refl _) (Nat.zero_le _) rfl
theorem rd_lit (w : World) (l : List Nat) (h : Sm l) : Rd (w.alloc (.cells (bv l).toArray 5)) (some ⟨w.heap.size, 0, none⟩) l :=
  ⟨h, fun i hi => ⟨w.heap.size, 0, rfl, by
    rw [cell_of_row _ _ _ _ _ _ (heap_alloc_new w _), Nat.zero_add]
    simpa using bv_at l i hi⟩⟩
theorem rd_lit_next (w : World) (o : Obj) (l : List Nat) (h : Sm l) : Rd ((w.alloc o).alloc (.cells (bv l).toArray 5)) (some ⟨w.heap.size + 1, 0, none⟩) l := by
  have := rd_lit (w.alloc o) l h
  rwa [show (w.alloc o).heap.size = w.heap.size + 1 from by simp] at this
theorem rd_one (w : World) (p : Nat) (hp : p < 256) : Rd (w.alloc (.cells #[.int .u8 (p : Int)] 5)) (some ⟨w.heap.size, 0, none⟩) [p] :=
  ⟨Sm.cons hp Sm.nil, fun i hi => ⟨w.heap.size, 0, rfl, by
    rw [cell_of_row _ _ _ _ _ _ (heap_alloc_new w _)]
    match i, hi with
    | 0, _ => simp [co]⟩⟩
theorem rd_two (w : World) (p q : Nat) (hp : p < 256) (hq : q < 256) : Rd (w.alloc (.cells #[.int .u8 (p : Int), .int .u8 (q : Int)] 5)) (some ⟨w.heap.size, 0, none⟩) [p, q] :=
  ⟨Sm.cons hp (Sm.cons hq Sm.nil), fun i hi => ⟨w.heap.size, 0, rfl, by
    rw [cell_of_row _ _ _ _ _ _ (heap_alloc_new w _)]
    match i, hi with
    | 0, _ => simp [co]
    | 1, _ => simp [co]⟩⟩
/-- A slice value that reads as l. -/
def Sl (w : World) (v : Value) (l : List Nat) : Prop := ∃ B c, v = .slice B l.length c ∧ l.length ≤ c ∧ Rd w B l
theorem Sl.ext {w w' : World} {v : Value} {l : List Nat} (h : Sl w v l) (hx : Ext w w') : Sl w' v l := by
  obtain ⟨B, c, rfl, hc, hr⟩ := h
  exact ⟨B, c, rfl, hc, hr.ext hx⟩
end Go.Proofs.Ytjifionpblpfoaa

/-
  Bytes that a call makes and fills one by one: a block as a function of the place. Conditions: none.
-/
namespace Go.Proofs.Ytjifionpblpfoaa
open Go.RowKit
open Pol (co Sm)

/-- n bytes, the one at place i being f i: as cells, and as a list. -/
def bt (n : Nat) (f : Nat → Nat) : Array Value := Array.ofFn (n := n) fun i => Value.int .u8 ((f i.val : Nat) : Int)
def tab (n : Nat) (f : Nat → Nat) : List Nat := (List.range n).map f
def upd (f : Nat → Nat) (k v : Nat) : Nat → Nat := fun i => if i = k then v else f i
theorem bt_size (n : Nat) (f : Nat → Nat) : (bt n f).size = n := by simp [bt]
theorem bt_at (n : Nat) (f : Nat → Nat) (i : Nat) (h : i < n) : (bt n f)[i]? = some (.int .u8 ((f i : Nat) : Int)) := by simp [bt, h]
theorem bt_set (n : Nat) (f : Nat → Nat) (k v : Nat) : (bt n f).setIfInBounds k (.int .u8 (v : Int)) = bt n (upd f k v) := by
  apply Array.ext (by simp [bt])
  intro i h1 h2
  simp only [bt, Array.size_setIfInBounds, Array.size_ofFn] at h1
  rw [Array.getElem_setIfInBounds (by simpa [bt] using h1)]
  by_cases e : k = i
  · subst e; simp [bt, upd]
  · rw [if_neg e]
    simp only [bt, Array.getElem_ofFn, upd]
    rw [if_neg (fun h => e h.symm)]
theorem bt_made (n : Nat) : madeCells #[.int .u8 0] n = bt n (fun _ => 0) := by
  apply Array.ext (by simp [bt, size_madeCells])
  intro i h1 h2
  simp [madeCells, bt, Nat.mod_one]
theorem tab_len (n : Nat) (f : Nat → Nat) : (tab n f).length = n := by simp [tab]
theorem co_tab (n : Nat) (f : Nat → Nat) (i : Nat) : co (tab n f) i = if i < n then f i else 0 := by
  unfold co tab
  rw [List.getElem?_map]
  by_cases h : i < n
  · rw [if_pos h, List.getElem?_range h]; rfl
  · rw [if_neg h, List.getElem?_eq_none (by simp; omega)]; rfl
theorem tab_sm (n : Nat) (f : Nat → Nat) (h : ∀ i, i < n → f i < 256) : Sm (tab n f) := fun i => by
  rw [co_tab]
  split
  · exact h i (by assumption)
  · omega
/-- Block g holds just these n bytes. -/
def Blk (w : World) (g n : Nat) (f : Nat → Nat) : Prop := w.heap[g]? = some (.cells (bt n f) 5 (0, 0))
theorem Blk.cell {w : World} {g n : Nat} {f : Nat → Nat} (h : Blk w g n f) (i : Nat) (hi : i < n) : w.cell? ⟨g, i, none⟩ = some (.int .u8 ((f i : Nat) : Int)) := by
  rw [cell_of_row w g i _ _ _ h, bt_at n f i hi]
theorem Blk.frozen {w : World} {g n : Nat} {f : Nat → Nat} (h : Blk w g n f) (i : Nat) : w.frozen? ⟨g, i, none⟩ = false := frozen_of_row w g i _ _ h
theorem Blk.store {w : World} {g n : Nat} {f : Nat → Nat} (h : Blk w g n f) (k v : Nat) : Blk (w.setCell ⟨g, k, none⟩ (.int .u8 (v : Int))) g n (upd f k v) := by
  unfold Blk
  rw [heap_setCell_same w g k _ _ _ h, bt_set]
theorem Blk.drewN {w : World} {g n : Nat} {f : Nat → Nat} (h : Blk w g n f) (m : Nat) : Blk (w.drewN m) g n f := h
theorem Blk.new (w : World) (n : Nat) (f : Nat → Nat) : Blk (w.alloc (.cells (bt n f) 5)) w.heap.size n f := heap_alloc_new w _
theorem Blk.congr {w : World} {g n : Nat} {f f' : Nat → Nat} (h : Blk w g n f) (hf : ∀ i, i < n → f i = f' i) : Blk w g n f' := by
  have e : bt n f = bt n f' := by
    apply Array.ext (by simp [bt])
    intro i h1 h2
    have hi : i < n := by simpa [bt] using h1
    simp [bt, hf i hi]
  unfold Blk
  rw [← e]
  exact h
theorem Blk.reads {w : World} {g n : Nat} {f : Nat → Nat} (h : Blk w g n f) (hs : ∀ i, i < n → f i < 256) : Rd w (some ⟨g, 0, none⟩) (tab n f) :=
  ⟨tab_sm n f hs, fun i hi => ⟨g, 0, rfl, by
    rw [tab_len] at hi
    rw [Nat.zero_add, h.cell i hi, co_tab, if_pos hi]⟩⟩
theorem Blk.lt {w : World} {g n : Nat} {f : Nat → Nat} (h : Blk w g n f) : g < w.heap.size := by
  rcases Nat.lt_or_ge g w.heap.size with hlt | hge
  · exact hlt
  · unfold Blk at h; rw [Array.getElem?_eq_none hge] at h; cases h
theorem Blk.ext {w w' : World} {g n : Nat} {f : Nat → Nat} (h : Blk w g n f) (hx : Ext w w') : Blk w' g n f := (hx.below.block g h.lt).trans h

set_option maxRecDepth 100000 in
/-- make([]byte, n). -/
theorem run_make_u8 (n : Nat) (hn : n ≤ 1099511627776) (w : World) :
    (Instr.makeSlice 23 (.int .i64 (n : Int)) (.int .i64 (n : Int))).run Try.prog w = .ok (.slice (some ⟨w.heap.size, 0, none⟩) n n) (w.alloc (.cells (bt n fun _ => 0) 5)) := by
  obtain ⟨i0, hi, hz0, hz1, hz2⟩ := info_parts u8_info
  have h := run_make (P := Try.prog) w 23 5 i0 (.int .u8 0) Try.underlying23 hi hz0 .i64 .i64 n n (by omega) (by omega) (by rw [hz2]; omega) (by omega)
  simp only [Int.toNat_natCast, hz1, Nat.mul_one] at h
  rw [h, ← bt_made]
  rfl
end Go.Proofs.Ytjifionpblpfoaa

/-
  The plain mathematics of linear equations over the field: what the kernel of some rows tells, which unknowns are free, the one solution whose free unknowns are 0, and the rank. Conditions: none; nothing of the program is named here.
-/
namespace Lin
open Gf (mul quo)
open Pol (xs co Sm)

/-- All are bytes. -/
def By (x : Nat → Nat) : Prop := ∀ k, x k < 256
/-- A row times unknowns. -/
def dot (N : Nat) (r x : Nat → Nat) : Nat := xs N fun k => mul (r k) (x k)
theorem dot_lt (N : Nat) (r x : Nat → Nat) : dot N r x < 256 := Pol.xs_lt N fun _ _ => Gf.mul_lt _ _
theorem dot_add (N : Nat) (r x y : Nat → Nat) (hr : By r) (hx : By x) (hy : By y) : dot N r (fun k => x k ^^^ y k) = dot N r x ^^^ dot N r y := by
  unfold dot
  rw [← Pol.xs_add]
  exact Pol.xs_congr N fun k _ => Gf.mul_add _ _ _ (hr k) (hx k) (hy k)
theorem dot_add_left (N : Nat) (r s x : Nat → Nat) (hr : By r) (hs : By s) (hx : By x) : dot N (fun k => r k ^^^ s k) x = dot N r x ^^^ dot N s x := by
  unfold dot
  rw [← Pol.xs_add]
  exact Pol.xs_congr N fun k _ => Gf.add_mul _ _ _ (hr k) (hs k) (hx k)
theorem dot_smul_left (N : Nat) (c : Nat) (r x : Nat → Nat) (hc : c < 256) (hr : By r) (hx : By x) : dot N (fun k => mul c (r k)) x = mul c (dot N r x) := by
  unfold dot
  rw [Pol.mul_xs c _ hc N fun _ _ => Gf.mul_lt _ _]
  exact Pol.xs_congr N fun k _ => Gf.mul_assoc _ _ _ hc (hr k) (hx k)
theorem dot_comm (N : Nat) (r x : Nat → Nat) : dot N r x = dot N x r := Pol.xs_congr N fun _ _ => Gf.mul_comm _ _
theorem dot_smul (N : Nat) (c : Nat) (r x : Nat → Nat) (hc : c < 256) (hr : By r) (hx : By x) : dot N r (fun k => mul c (x k)) = mul c (dot N r x) := by
  rw [dot_comm, dot_smul_left N c x r hc hx hr, dot_comm]
theorem dot_congr {N : Nat} {r s x y : Nat → Nat} (h : ∀ k, k < N → r k = s k) (h' : ∀ k, k < N → x k = y k) : dot N r x = dot N s y := Pol.xs_congr N fun k hk => by rw [h k hk, h' k hk]
theorem dot_zero (N : Nat) (r x : Nat → Nat) (h : ∀ k, k < N → r k = 0 ∨ x k = 0) : dot N r x = 0 := Pol.xs_zero N fun k hk => by
  rcases h k hk with e | e
  · rw [e, Gf.zero_mul]
  · rw [e, Gf.mul_zero]
theorem dot_single (N : Nat) (r x : Nat → Nat) (c : Nat) (hc : c < N) (h : ∀ k, k < N → k ≠ c → r k = 0 ∨ x k = 0) : dot N r x = mul (r c) (x c) :=
  Pol.xs_single _ c N hc fun k hk hne => by
    rcases h k hk hne with e | e
    · rw [e, Gf.zero_mul]
    · rw [e, Gf.mul_zero]

/-- Closed under sums and multiples. -/
structure IsLin (K : (Nat → Nat) → Prop) : Prop where
  add : ∀ x y, By x → By y → K x → K y → K (fun k => x k ^^^ y k)
  smul : ∀ c x, c < 256 → By x → K x → K (fun k => mul c (x k))
  /-- it depends on the values alone -/
  cong : ∀ x y, (∀ k, x k = y k) → K x → K y

/-- What all rows send to 0. -/
def KL (N : Nat) (rows : List (List Nat)) (x : Nat → Nat) : Prop := ∀ r ∈ rows, dot N (co r) x = 0
def Bytes (rows : List (List Nat)) : Prop := ∀ r ∈ rows, Sm r
theorem kl_lin (N : Nat) (rows : List (List Nat)) (h : Bytes rows) : IsLin (KL N rows) where
  add := fun x y hx hy h1 h2 r hr => by rw [dot_add N (co r) x y (h r hr) hx hy, h1 r hr, h2 r hr]; rfl
  smul := fun c x hc hx h1 r hr => by rw [dot_smul N c (co r) x hc (h r hr) hx, h1 r hr, Gf.mul_zero]
  cong := fun x y e h1 r hr => by rw [← h1 r hr]; exact dot_congr (fun _ _ => rfl) (fun k _ => (e k).symm)

/-- Something in K has its last part at c. -/
def Free (K : (Nat → Nat) → Prop) (c : Nat) : Prop := ∃ v, By v ∧ K v ∧ v c ≠ 0 ∧ ∀ j, c < j → v j = 0
def Alike (K K' : (Nat → Nat) → Prop) : Prop := ∀ x, By x → (K x ↔ K' x)
theorem Alike.symm {K K' : (Nat → Nat) → Prop} (h : Alike K K') : Alike K' K := fun x hx => (h x hx).symm
theorem Alike.trans {K K' K'' : (Nat → Nat) → Prop} (h : Alike K K') (k : Alike K' K'') : Alike K K'' := fun x hx => (h x hx).trans (k x hx)
theorem Alike.free {K K' : (Nat → Nat) → Prop} (h : Alike K K') (c : Nat) : Free K c ↔ Free K' c :=
  ⟨fun ⟨v, hv, k, r⟩ => ⟨v, hv, (h v hv).1 k, r⟩, fun ⟨v, hv, k, r⟩ => ⟨v, hv, (h v hv).2 k, r⟩⟩

/-- The unknowns, and 1 behind them. -/
def ext1 (n : Nat) (x : Nat → Nat) : Nat → Nat := fun k => if k < n then x k else if k = n then 1 else 0
theorem ext1_by (n : Nat) (x : Nat → Nat) (h : By x) : By (ext1 n x) := fun k => by
  unfold ext1
  split
  · exact h k
  · split <;> omega
/-- The solution whose free unknowns are 0; and: there is none. -/
structure SolSome (K : (Nat → Nat) → Prop) (n : Nat) (x : List Nat) : Prop where
  len : x.length = n
  sm : Sm x
  sol : K (ext1 n (co x))
  zero : ∀ c, c < n → Free K c → co x c = 0
def SolNone (K : (Nat → Nat) → Prop) (n : Nat) : Prop := ∀ x, By x → ¬ K (ext1 n x)
theorem SolSome.alike {K K' : (Nat → Nat) → Prop} {n : Nat} {x : List Nat} (h : SolSome K n x) (e : Alike K K') : SolSome K' n x :=
  ⟨h.len, h.sm, (e _ (ext1_by n _ h.sm)).1 h.sol, fun c hc hf => h.zero c hc ((e.free c).2 hf)⟩
theorem SolNone.alike {K K' : (Nat → Nat) → Prop} {n : Nat} (h : SolNone K n) (e : Alike K K') : SolNone K' n := fun x hx k => h x hx ((e _ (ext1_by n _ hx)).2 k)
theorem SolSome.not_none {K : (Nat → Nat) → Prop} {n : Nat} {x : List Nat} (h : SolSome K n x) : ¬ SolNone K n := fun k => k _ h.sm h.sol

theorem top_of : ∀ (n : Nat) (d : Nat → Nat), (∀ k, n ≤ k → d k = 0) → (∃ c, c < n ∧ d c ≠ 0 ∧ ∀ j, c < j → d j = 0) ∨ ∀ k, d k = 0
  | 0, _, h => .inr fun k => h k (Nat.zero_le _)
  | n + 1, d, h => by
    by_cases e : d n = 0
    · rcases top_of n d (fun k hk => by
        by_cases hk' : k = n
        · rw [hk', e]
        · exact h k (by omega)) with ⟨c, hc, r⟩ | r
      · exact .inl ⟨c, by omega, r⟩
      · exact .inr r
    · exact .inl ⟨n, by omega, e, fun j hj => h j (by omega)⟩

theorem list_ext {x y : List Nat} (hl : x.length = y.length) (h : ∀ i, i < x.length → co x i = co y i) : x = y := by
  apply List.ext_getElem hl
  intro i h1 h2
  have := h i h1
  unfold co at this
  rw [List.getElem?_eq_getElem h1, List.getElem?_eq_getElem h2] at this
  exact this
theorem sol_one {K : (Nat → Nat) → Prop} (hK : IsLin K) {n : Nat} {x y : List Nat} (h : SolSome K n x) (k : SolSome K n y) : x = y := by
  have hd := hK.add _ _ (ext1_by n _ h.sm) (ext1_by n _ k.sm) h.sol k.sol
  have hz : ∀ j, n ≤ j → (ext1 n (co x) j ^^^ ext1 n (co y) j) = 0 := fun j hj => by
    have e : ext1 n (co x) j = ext1 n (co y) j := by
      unfold ext1
      rw [if_neg (show ¬ j < n by omega), if_neg (show ¬ j < n by omega)]
    rw [e, Nat.xor_self]
  rcases top_of n _ hz with ⟨c, hc, hne, htop⟩ | hall
  · exfalso
    have hf : Free K c := ⟨_, fun j => Gf.xor_lt _ _ (ext1_by n _ h.sm j) (ext1_by n _ k.sm j), hd, hne, htop⟩
    apply hne
    unfold ext1
    rw [if_pos hc, if_pos hc, h.zero c hc hf, k.zero c hc hf]
    rfl
  · refine list_ext (h.len.trans k.len.symm) fun i hi => ?_
    have := hall i
    rw [h.len] at hi
    unfold ext1 at this
    rw [if_pos hi, if_pos hi] at this
    exact Gf.xor_zero_iff _ _ this
theorem kill {K : (Nat → Nat) → Prop} (hK : IsLin K) (n : Nat) (y : Nat → Nat) (hy : By y) (h : K (ext1 n y)) : ∀ t, ∃ z, By z ∧ K (ext1 n z) ∧ ∀ c, n - t ≤ c → c < n → Free K c → z c = 0
  | 0 => ⟨y, hy, h, fun c h1 h2 => by omega⟩
  | t + 1 => by
    obtain ⟨z, hz, hk, hf⟩ := kill hK n y hy h t
    by_cases ht : n - (t + 1) < n - t
    · by_cases hfr : Free K (n - (t + 1))
      · obtain ⟨v, hv, kv, hne, htop⟩ := hfr
        obtain ⟨c, hc⟩ : ∃ c, n - (t + 1) = c := ⟨_, rfl⟩
        rw [hc] at hne htop
        obtain ⟨q, hq⟩ : ∃ q, quo (z c) (v c) = q := ⟨_, rfl⟩
        have hq256 : q < 256 := by rw [← hq]; exact Gf.quo_lt _ _
        have hkill : z c ^^^ mul q (v c) = 0 := by rw [← hq, Gf.quo_mul _ _ (hz c) (hv c) hne, Nat.xor_self]
        refine ⟨fun k => z k ^^^ mul q (v k), fun k => Gf.xor_lt _ _ (hz k) (Gf.mul_lt _ _), ?_, fun c' h1 h2 h3 => ?_⟩
        · refine hK.cong _ _ (fun k => ?_) (hK.add _ _ (ext1_by n z hz) (fun k => Gf.mul_lt q (v k)) hk (hK.smul q v hq256 hv kv))
          unfold ext1
          by_cases hkn : k < n
          · rw [if_pos hkn, if_pos hkn]
          · rw [if_neg hkn, if_neg hkn, htop k (by omega), Gf.mul_zero, Nat.xor_zero]
        · by_cases e : c' = c
          · rw [e]; exact hkill
          · show z c' ^^^ mul q (v c') = 0
            rw [htop c' (by omega), Gf.mul_zero, Nat.xor_zero]
            exact hf c' (by omega) h2 h3
      · refine ⟨z, hz, hk, fun c' h1 h2 h3 => ?_⟩
        by_cases e : c' = n - (t + 1)
        · rw [e] at h3; exact absurd h3 hfr
        · exact hf c' (by omega) h2 h3
    · exact ⟨z, hz, hk, fun c' h1 h2 h3 => hf c' (by omega) h2 h3⟩
theorem sol_or {K : (Nat → Nat) → Prop} (hK : IsLin K) (n : Nat) : (∃ x, SolSome K n x) ∨ SolNone K n := by
  by_cases h : ∃ y, By y ∧ K (ext1 n y)
  · obtain ⟨y, hy, k⟩ := h
    obtain ⟨z, hz, kz, hf⟩ := kill hK n y hy k n
    refine .inl ⟨(List.range n).map z, by simp, fun i => ?_, ?_, fun c hc hfr => ?_⟩
    · unfold co
      rw [List.getElem?_map]
      by_cases hi : i < n
      · rw [List.getElem?_range hi]; exact hz i
      · rw [List.getElem?_eq_none (by simp; omega)]; simp
    · refine hK.cong _ _ (fun k => ?_) kz
      unfold ext1
      by_cases hk : k < n
      · rw [if_pos hk, if_pos hk]
        unfold co
        rw [List.getElem?_map, List.getElem?_range hk]; rfl
      · rw [if_neg hk, if_neg hk]
    · unfold co
      rw [List.getElem?_map, List.getElem?_range hc]
      exact hf c (by omega) hc hfr
  · exact .inr fun x hx k => h ⟨x, hx, k⟩

/-! ### Counting -/
def Cnt (P : Nat → Prop) : Nat → Nat → Prop
  | 0, d => d = 0
  | N + 1, d => (P N ∧ ∃ e, d = e + 1 ∧ Cnt P N e) ∨ (¬ P N ∧ Cnt P N d)
theorem cnt_is (P : Nat → Prop) : ∀ N, ∃ d, Cnt P N d
  | 0 => ⟨0, rfl⟩
  | N + 1 => by
    obtain ⟨d, h⟩ := cnt_is P N
    by_cases e : P N
    · exact ⟨d + 1, .inl ⟨e, d, rfl, h⟩⟩
    · exact ⟨d, .inr ⟨e, h⟩⟩
theorem cnt_le {P : Nat → Prop} : ∀ {N d : Nat}, Cnt P N d → d ≤ N
  | 0, d, h => by rw [show d = 0 from h]; exact Nat.le_refl _
  | N + 1, d, h => by
    rcases h with ⟨_, e, rfl, h⟩ | ⟨_, h⟩
    · have := cnt_le h; omega
    · have := cnt_le h; omega
/-- P' holds wherever P does; then it counts no less, and where it differs at one place at most, one more at most. -/
theorem cnt_sub {P P' : Nat → Prop} : ∀ {N d d' : Nat}, (∀ c, c < N → P c → P' c) → Cnt P N d → Cnt P' N d' → d ≤ d'
  | 0, d, d', _, h, h' => by rw [show d = 0 from h]; exact Nat.zero_le _
  | N + 1, d, d', hs, h, h' => by
    rcases h with ⟨p, e, rfl, h⟩ | ⟨p, h⟩ <;> rcases h' with ⟨p', e', rfl, h'⟩ | ⟨p', h'⟩
    · have := cnt_sub (fun c hc => hs c (by omega)) h h'; omega
    · exact absurd (hs N (by omega) p) p'
    · have := cnt_sub (fun c hc => hs c (by omega)) h h'; omega
    · exact cnt_sub (fun c hc => hs c (by omega)) h h'
theorem cnt_same {P P' : Nat → Prop} {N d d' : Nat} (hs : ∀ c, c < N → (P c ↔ P' c)) (h : Cnt P N d) (h' : Cnt P' N d') : d = d' :=
  Nat.le_antisymm (cnt_sub (fun c hc => (hs c hc).1) h h') (cnt_sub (fun c hc => (hs c hc).2) h' h)
theorem cnt_more {P P' : Nat → Prop} : ∀ {N d d' : Nat}, (∀ c c', c < N → c' < N → P' c → ¬ P c → P' c' → ¬ P c' → c = c') → Cnt P N d → Cnt P' N d' → d' ≤ d + 1
  | 0, d, d', _, _, h' => by rw [show d' = 0 from h']; omega
  | N + 1, d, d', hs, h, h' => by
    rcases h with ⟨p, e, rfl, h⟩ | ⟨p, h⟩ <;> rcases h' with ⟨p', e', rfl, h'⟩ | ⟨p', h'⟩
    · have := cnt_more (fun c c' h1 h2 => hs c c' (by omega) (by omega)) h h'; omega
    · have := cnt_more (fun c c' h1 h2 => hs c c' (by omega) (by omega)) h h'; omega
    · have := cnt_sub (P := P') (P' := P) (fun c hc hp' => by
        by_cases hp : P c
        · exact hp
        · have := hs c N (by omega) (by omega) hp' hp p' p; omega) h' h
      omega
    · have := cnt_more (fun c c' h1 h2 => hs c c' (by omega) (by omega)) h h'; omega
def NotFree (K : (Nat → Nat) → Prop) (c : Nat) : Prop := ¬ Free K c
theorem rank_alike {K K' : (Nat → Nat) → Prop} {N d d' : Nat} (e : Alike K K') (h : Cnt (NotFree K) N d) (h' : Cnt (NotFree K') N d') : d = d' :=
  cnt_same (fun c _ => not_congr (e.free c)) h h'

/-! ### One row more -/
theorem kl_snoc (N : Nat) (rows : List (List Nat)) (r : List Nat) (x : Nat → Nat) : KL N (rows ++ [r]) x ↔ KL N rows x ∧ dot N (co r) x = 0 := by
  unfold KL
  simp only [List.mem_append, List.mem_singleton]
  exact ⟨fun h => ⟨fun s hs => h s (.inl hs), h r (.inr rfl)⟩, fun h s hs => hs.elim (h.1 s) (fun e => e ▸ h.2)⟩
theorem snoc_rank {N d d' : Nat} {rows : List (List Nat)} {r : List Nat} (hb : Bytes rows) (hr : Sm r) (h : Cnt (NotFree (KL N rows)) N d) (h' : Cnt (NotFree (KL N (rows ++ [r]))) N d') : d ≤ d' ∧ d' ≤ d + 1 := by
  have hK := kl_lin N rows hb
  have key : ∀ c c', c < c' → Free (KL N rows) c → ¬ Free (KL N (rows ++ [r])) c → Free (KL N rows) c' → Free (KL N (rows ++ [r])) c' := by
    rintro c c' hcc ⟨v, hv, kv, hne, htop⟩ hnot ⟨v', hv', kv', hne', htop'⟩
    have h1 : dot N (co r) v ≠ 0 := fun e => hnot ⟨v, hv, (kl_snoc N rows r v).2 ⟨kv, e⟩, hne, htop⟩
    obtain ⟨q, hq⟩ : ∃ q, quo (dot N (co r) v') (dot N (co r) v) = q := ⟨_, rfl⟩
    have hq256 : q < 256 := by rw [← hq]; exact Gf.quo_lt _ _
    refine ⟨fun k => v' k ^^^ mul q (v k), fun k => Gf.xor_lt _ _ (hv' k) (Gf.mul_lt _ _), (kl_snoc N rows r _).2 ⟨hK.add _ _ hv' (fun k => Gf.mul_lt q (v k)) kv' (hK.smul q v hq256 hv kv), ?_⟩, ?_, fun j hj => ?_⟩
    · rw [dot_add N (co r) v' _ hr hv' (fun k => Gf.mul_lt q (v k)), dot_smul N q (co r) v hq256 hr hv, ← hq, Gf.quo_mul _ _ (dot_lt _ _ _) (dot_lt _ _ _) h1, Nat.xor_self]
    · show v' c' ^^^ mul q (v c') ≠ 0
      rw [htop c' hcc, Gf.mul_zero, Nat.xor_zero]
      exact hne'
    · show v' j ^^^ mul q (v j) = 0
      rw [htop' j hj, htop j (by omega), Gf.mul_zero]
      rfl
  constructor
  · refine cnt_sub (fun c _ hn => ?_) h h'
    intro hf
    apply hn
    obtain ⟨v, hv, kv, rest⟩ := hf
    exact ⟨v, hv, ((kl_snoc N rows r v).1 kv).1, rest⟩
  · refine cnt_more (fun c c' _ _ h1 h2 h3 h4 => ?_) h h'
    have f1 : Free (KL N rows) c := Classical.byContradiction fun e => h2 e
    have f2 : Free (KL N rows) c' := Classical.byContradiction fun e => h4 e
    rcases Nat.lt_trichotomy c c' with hlt | e | hgt
    · exact absurd (key c c' hlt f1 h1 f2) h3
    · exact e
    · exact absurd (key c' c hgt f2 h3 f1) h1
theorem none_rank {N d : Nat} (h : Cnt (NotFree (KL N [])) N d) : d = 0 := by
  have hf : ∀ c, Free (KL N []) c := fun c => ⟨fun k => if k = c then 1 else 0, fun k => by show (if k = c then 1 else 0) < 256; split <;> omega, fun r hr => absurd hr (by simp), by simp, fun j hj => if_neg (by omega)⟩
  have hz : ∀ M e, Cnt (NotFree (KL N [])) M e → e = 0 := by
    intro M
    induction M with
    | zero => intro e he; exact he
    | succ M ih =>
      intro e he
      rcases he with ⟨hp, _⟩ | ⟨_, he⟩
      · exact absurd (hf M) hp
      · exact ih e he
  exact hz N d h
theorem kl_mem {N : Nat} {rows rows' : List (List Nat)} (h : ∀ r, r ∈ rows ↔ r ∈ rows') : Alike (KL N rows) (KL N rows') := fun _ _ => ⟨fun k r hr => k r ((h r).2 hr), fun k r hr => k r ((h r).1 hr)⟩
theorem rank_le {N : Nat} : ∀ (rows : List (List Nat)), Bytes rows → ∀ d, Cnt (NotFree (KL N rows)) N d → d ≤ rows.length
  | [], _, d, h => by rw [none_rank h]; exact Nat.zero_le _
  | r :: rows, hb, d, h => by
    obtain ⟨e, he⟩ := cnt_is (NotFree (KL N rows)) N
    obtain ⟨d', hd'⟩ := cnt_is (NotFree (KL N (rows ++ [r]))) N
    have hb' : Bytes rows := fun s hs => hb s (List.mem_cons_of_mem _ hs)
    have h1 := (snoc_rank hb' (hb r (by simp)) he hd').2
    have h2 := rank_le rows hb' e he
    have h3 : d = d' := rank_alike (kl_mem fun s => by simp [or_comm]) h hd'
    rw [List.length_cons]
    omega
end Lin

/-
  What layer 8's functions are to answer: numbers as varints, and what is read of bytes. Conditions: none; no function is named here.
-/
namespace Go.Proofs.Ytjifionpblpfoaa
open Go.RowKit
open Pol (co Sm)

/-- What is read, and what is left; or an error. -/
inductive Rs (α : Type) where
  | ok (a : α) (rest : List Nat)
  | er (e : Nat)
  deriving DecidableEq
/-- A number's bytes. -/
def vn (n : Nat) : List Nat := if n < 128 then [n] else (n % 128 + 128) :: vn (n / 128)
termination_by n
decreasing_by omega
/-- A number is read: i bytes were, that come to n. -/
def rv (most : Nat) : Nat → Nat → List Nat → Rs Nat
  | _, _, [] => .er 2
  | i, n, b :: l => if i = 9 ∧ 1 < b ∨ 0 < i ∧ b = 0 then .er 14 else if b < 128 then (if most < n + b % 128 * 128 ^ i then .er 10 else .ok (n + b % 128 * 128 ^ i) l) else rv most (i + 1) (n + b % 128 * 128 ^ i) l
def rdN (most : Nat) (l : List Nat) : Rs Nat := rv most 0 0 l
/-- So many bytes are read. -/
def rdB (n : Nat) (l : List Nat) : Rs (List Nat) := if l.length < n then .er 2 else .ok (l.take n) (l.drop n)
def Rs.bind {α β : Type} (r : Rs α) (f : α → List Nat → Rs β) : Rs β := match r with | .ok a l => f a l | .er e => .er e
def rdT (longest : Nat) (l : List Nat) : Rs (List Nat) := (rdN longest l).bind rdB
def vt (t : List Nat) : List Nat := vn t.length ++ t

theorem vn_lt {n : Nat} (h : n < 128) : vn n = [n] := by rw [vn, if_pos h]
theorem vn_ge {n : Nat} (h : ¬ n < 128) : vn n = (n % 128 + 128) :: vn (n / 128) := by rw [vn, if_neg h]
theorem vn_sm : ∀ n, Sm (vn n) := fun n => by
  induction n using Nat.strongRecOn with
  | _ n ih =>
    by_cases h : n < 128
    · rw [vn_lt h]; exact Sm.cons (by omega) Sm.nil
    · rw [vn_ge h]; exact Sm.cons (by omega) (ih _ (by omega))
theorem vn_pos : ∀ n, 0 < (vn n).length := fun n => by
  by_cases h : n < 128
  · rw [vn_lt h]; simp
  · rw [vn_ge h]; simp
/-- A number of i bytes more is no more than ten bytes long. -/
theorem vn_len : ∀ (k n : Nat), n < 128 ^ (k + 1) → (vn n).length ≤ k + 1
  | 0, n, h => by rw [vn_lt (by omega)]; simp
  | k + 1, n, h => by
    by_cases hn : n < 128
    · rw [vn_lt hn]; simp
    · rw [vn_ge hn, List.length_cons]
      have := vn_len k (n / 128) (by rw [Nat.pow_succ] at h; omega)
      omega
theorem vn_zero : ∀ n l, vn n ≠ 0 :: l ∨ (n = 0 ∧ l = []) := fun n l => by
  by_cases h : n < 128
  · rw [vn_lt h]
    by_cases h0 : n = 0
    · by_cases hl : l = []
      · exact .inr ⟨h0, hl⟩
      · left; intro e; injection e with _ e; exact hl e.symm
    · left; intro e; injection e with e _; exact h0 e
  · rw [vn_ge h]
    left; intro e; injection e with e _; omega

/-- What was laid is read. -/
theorem rv_vn (most : Nat) (rest : List Nat) : ∀ (k i n acc : Nat), i + k = 9 → (i = 0 ∨ 0 < n) → n < 2 ^ (64 - 7 * i) → acc + n * 128 ^ i ≤ most ∨ most < acc + n * 128 ^ i →
    rv most i acc (vn n ++ rest) = if most < acc + n * 128 ^ i then .er 10 else .ok (acc + n * 128 ^ i) rest
  | k, i, n, acc, hik, h0, hn, _ => by
    by_cases h : n < 128
    · rw [vn_lt h, List.singleton_append, rv, if_neg, if_pos h, Nat.mod_eq_of_lt h]
      rintro (⟨h9, h1⟩ | ⟨hi, hz⟩)
      · subst h9
        have : n < 2 ^ 1 := hn
        omega
      · omega
    · have hi : i ≠ 9 := fun e => by
        subst e
        have : n < 2 ^ 1 := hn
        omega
      rw [vn_ge h, List.cons_append, rv, if_neg (by omega), if_neg (by omega)]
      have e1 : acc + (n % 128 + 128) % 128 * 128 ^ i + n / 128 * 128 ^ (i + 1) = acc + n * 128 ^ i := by
        rw [Nat.add_mod_right, Nat.mod_mod, Nat.pow_succ, Nat.add_assoc]
        congr 1
        rw [Nat.mul_comm (128 ^ i) 128, ← Nat.mul_assoc, ← Nat.add_mul]
        congr 1
        omega
      match k, hik with
      | 0, hik => omega
      | k + 1, hik =>
        rw [rv_vn most rest k (i + 1) (n / 128) _ (by omega) (.inr (by omega)) (by
          have e : 64 - 7 * i = (64 - 7 * (i + 1)) + 7 := by omega
          rw [e, Nat.pow_add] at hn
          omega) (by omega), e1]
theorem rdN_vn (most n : Nat) (rest : List Nat) (h : n < 2 ^ 64) : rdN most (vn n ++ rest) = if most < n then .er 10 else .ok n rest := by
  unfold rdN
  rw [rv_vn most rest 9 0 n 0 (by omega) (.inl rfl) h (by omega), Nat.pow_zero, Nat.mul_one, Nat.zero_add]
/-- What is read was laid so. -/
theorem sm_head {b : Nat} {l : List Nat} (h : Sm (b :: l)) : b < 256 := by have := h 0; rwa [Pol.co_zero] at this
theorem sm_tail {b : Nat} {l : List Nat} (h : Sm (b :: l)) : Sm l := fun i => by have := h (i + 1); rwa [Pol.co_succ] at this
theorem vn_rv (most : Nat) : ∀ (l : List Nat) (i acc n : Nat) (rest : List Nat), Sm l → i ≤ 9 → rv most i acc l = .ok n rest → ∃ m, l = vn m ++ rest ∧ n = acc + m * 128 ^ i ∧ m < 2 ^ (64 - 7 * i) ∧ (i = 0 ∨ 0 < m) ∧ n ≤ most
  | [], _, _, _, _, _, _, h => by rw [rv] at h; cases h
  | b :: l, i, acc, n, rest, hs, hi, h => by
    rw [rv] at h
    split at h
    · cases h
    · rename_i hk
      split at h
      · rename_i hb
        split at h
        · cases h
        · rename_i hm
          injection h with h1 h2
          subst h1; subst h2
          refine ⟨b, by rw [vn_lt hb]; rfl, by rw [Nat.mod_eq_of_lt hb], ?_, by omega, by omega⟩
          rcases Nat.lt_or_ge i 9 with h9 | h9
          · exact Nat.lt_of_lt_of_le hb (by
              have : 2 ^ 7 ≤ 2 ^ (64 - 7 * i) := Nat.pow_le_pow_right (by omega) (by omega)
              exact this)
          · obtain rfl : i = 9 := by omega
            show b < 2 ^ 1
            omega
      · rename_i hb
        have hi9 : i ≠ 9 := fun e => by omega
        obtain ⟨m, rfl, rfl, hm, hpos, hle⟩ := vn_rv most l (i + 1) _ n rest (sm_tail hs) (by omega) h
        have hm0 : 0 < m := by omega
        have hb2 := sm_head hs
        refine ⟨b % 128 + m * 128, ?_, ?_, ?_, .inr (by omega), hle⟩
        · rw [vn_ge (n := b % 128 + m * 128) (by omega), show (b % 128 + m * 128) / 128 = m from by omega, show (b % 128 + m * 128) % 128 + 128 = b from by omega]
          rfl
        · rw [Nat.pow_succ, Nat.add_mul, Nat.add_assoc]
          congr 1
          rw [Nat.mul_comm (128 ^ i) 128, ← Nat.mul_assoc]
        · have e : 64 - 7 * i = (64 - 7 * (i + 1)) + 7 := by omega
          rw [e, Nat.pow_add]
          omega
theorem vn_rdN {most n : Nat} {l rest : List Nat} (hs : Sm l) (h : rdN most l = .ok n rest) : l = vn n ++ rest ∧ n < 2 ^ 64 ∧ n ≤ most := by
  obtain ⟨m, h1, h2, h3, _, h4⟩ := vn_rv most l 0 0 n rest hs (by omega) h
  rw [Nat.pow_zero, Nat.mul_one, Nat.zero_add] at h2
  subst h2
  exact ⟨h1, h3, h4⟩
/-- What was laid, and cut short, is too short. -/
theorem rv_cut (most : Nat) : ∀ (k i n acc c : Nat), i + k = 9 → (i = 0 ∨ 0 < n) → n < 2 ^ (64 - 7 * i) → c < (vn n).length → rv most i acc ((vn n).take c) = .er 2
  | k, i, n, acc, 0, _, _, _, _ => by rw [List.take_zero, rv]
  | k, i, n, acc, c + 1, hik, h0, hn, hc => by
    by_cases h : n < 128
    · rw [vn_lt h] at hc
      simp at hc
    · have hi : i ≠ 9 := fun e => by
        subst e
        have : n < 2 ^ 1 := hn
        omega
      rw [vn_ge h, List.length_cons] at hc
      rw [vn_ge h, List.take_succ_cons, rv, if_neg (by omega), if_neg (by omega)]
      match k, hik with
      | 0, hik => omega
      | k + 1, hik =>
        exact rv_cut most k (i + 1) (n / 128) _ c (by omega) (.inr (by omega)) (by
          have e : 64 - 7 * i = (64 - 7 * (i + 1)) + 7 := by omega
          rw [e, Nat.pow_add] at hn
          omega) (by omega)
theorem rdN_cut (most n c : Nat) (h : n < 2 ^ 64) (hc : c < (vn n).length) : rdN most ((vn n).take c) = .er 2 := rv_cut most 9 0 n 0 c (by omega) (.inl rfl) h hc
theorem rdT_vt (longest : Nat) (t rest : List Nat) (h : t.length < 2 ^ 64) : rdT longest (vt t ++ rest) = if longest < t.length then .er 10 else .ok t rest := by
  unfold rdT vt
  rw [List.append_assoc, rdN_vn _ _ _ h]
  split
  · rfl
  · unfold Rs.bind rdB
    simp only
    rw [if_neg (by rw [List.length_append]; omega), List.take_left, List.drop_left]
theorem vt_rdT {longest : Nat} {l t rest : List Nat} (hs : Sm l) (h : rdT longest l = .ok t rest) : l = vt t ++ rest ∧ t.length ≤ longest ∧ t.length < 2 ^ 64 := by
  unfold rdT at h
  cases hn : rdN longest l with
  | er e => rw [hn] at h; cases h
  | ok n r =>
    rw [hn] at h
    unfold Rs.bind rdB at h
    simp only at h
    split at h
    · cases h
    · rename_i hl
      injection h with h1 h2
      obtain ⟨e1, e2, e3⟩ := vn_rdN hs hn
      have hlen : t.length = n := by rw [← h1, List.length_take]; omega
      refine ⟨?_, by omega, by omega⟩
      unfold vt
      rw [hlen, e1, List.append_assoc, ← h1, ← h2, List.take_append_drop]
theorem rdB_ok {n : Nat} {l t rest : List Nat} (h : rdB n l = .ok t rest) : l = t ++ rest ∧ t.length = n := by
  unfold rdB at h
  split at h
  · cases h
  · injection h with h1 h2
    exact ⟨by rw [← h1, ← h2, List.take_append_drop], by rw [← h1, List.length_take]; omega⟩
theorem rdB_app (t rest : List Nat) : rdB t.length (t ++ rest) = .ok t rest := by
  unfold rdB
  rw [if_neg (by rw [List.length_append]; omega), List.take_left, List.drop_left]
/-- An error is not 0. -/
theorem rv_er (most : Nat) : ∀ (l : List Nat) (i n e : Nat), rv most i n l = .er e → 0 < e ∧ e < 17
  | [], _, _, _, h => by rw [rv] at h; injection h with h; omega
  | b :: l, i, n, e, h => by
    rw [rv] at h
    split at h
    · injection h with h; omega
    · split at h
      · split at h
        · injection h with h; omega
        · cases h
      · exact rv_er most l _ _ e h
theorem rdN_er {most e : Nat} {l : List Nat} (h : rdN most l = .er e) : 0 < e ∧ e < 17 := rv_er most l 0 0 e h
theorem rdB_er {n e : Nat} {l : List Nat} (h : rdB n l = .er e) : 0 < e ∧ e < 17 := by
  unfold rdB at h
  split at h
  · injection h with h; omega
  · cases h
theorem rdT_er {m e : Nat} {l : List Nat} (h : rdT m l = .er e) : 0 < e ∧ e < 17 := by
  unfold rdT at h
  cases hr : rdN m l with
  | er e' =>
    rw [hr] at h
    injection h with h
    rw [← h]
    exact rdN_er hr
  | ok n r =>
    rw [hr] at h
    exact rdB_er h
theorem sm_app {a b : List Nat} (ha : Sm a) (hb : Sm b) : Sm (a ++ b) := Pol.co_lt_of fun z hz => by
  rcases List.mem_append.1 hz with h | h
  · exact ha.mem z h
  · exact hb.mem z h
theorem sm_split {a b : List Nat} (h : Sm (a ++ b)) : Sm a ∧ Sm b := ⟨Pol.co_lt_of fun z hz => h.mem z (List.mem_append.2 (.inl hz)), Pol.co_lt_of fun z hz => h.mem z (List.mem_append.2 (.inr hz))⟩
theorem vt_sm {t : List Nat} (h : Sm t) : Sm (vt t) := sm_app (vn_sm _) h
theorem vn_ten {n : Nat} (h : n < 18446744073709551616) : (vn n).length ≤ 10 := vn_len 9 n (by omega)
end Go.Proofs.Ytjifionpblpfoaa

/-
  Orders in plain numbers: which can be, their bytes, what is read of bytes. Conditions: none; no function is named here.
-/
namespace Go.Proofs.Ytjifionpblpfoaa
open Go.RowKit
open Pol (co Sm)

/-- An order: its kind, whom it is for, how much, the memo. -/
structure Od where
  k : Int
  t : Int
  a : Nat
  m : List Nat
def Od.zero : Od := ⟨0, 0, 0, []⟩
def Od.right (o : Od) : Prop := o.m.length ≤ 16 ∧ ((o.k = 1 ∧ 0 ≤ o.t ∧ o.t < 6) ∨ (o.k = 2 ∧ o.t = 0 ∧ o.a = 0))
instance (o : Od) : Decidable o.right := inferInstanceAs (Decidable (_ ∧ _))
def Od.enc (o : Od) : List Nat := vn o.k.toNat ++ vn o.t.toNat ++ vn o.a ++ vt o.m
/-- The bytes, or none. -/
def Od.bytes (o : Od) : List Nat := if o.right then o.enc else []
def Od.code (o : Od) : Nat := if o.right then 0 else 1
/-- What is read, and what is left. -/
def rdO (b : List Nat) : Rs Od := (rdN 2 b).bind fun k b1 => (rdN 5 b1).bind fun t b2 => (rdN 18446744073709551615 b2).bind fun a b3 => (rdT 16 b3).bind fun m b4 => .ok ⟨(k : Int), (t : Int), a, m⟩ b4
def dec14 (b : List Nat) : Nat × Od := match rdO b with
  | .er n => (n, Od.zero)
  | .ok o rest => if rest ≠ [] then (3, Od.zero) else if o.right then (0, o) else (14, Od.zero)
theorem Od.right_bounds {o : Od} (h : o.right) : 0 ≤ o.k ∧ o.k ≤ 2 ∧ 0 ≤ o.t ∧ o.t ≤ 5 ∧ o.m.length ≤ 16 := by
  obtain ⟨h1, h2 | h2⟩ := h
  · omega
  · omega
theorem rdN_of {m n : Nat} (rest : List Nat) (h : n < 18446744073709551616) (hm : n ≤ m) : rdN m (vn n ++ rest) = .ok n rest := by
  rw [rdN_vn m n rest (by omega), if_neg (by omega)]
theorem rdO_enc {o : Od} (h : o.right) (ha : o.a < 18446744073709551616) : rdO o.enc = .ok o [] := by
  obtain ⟨h1, h2, h3, h4, h5⟩ := Od.right_bounds h
  unfold rdO Od.enc
  rw [List.append_assoc, List.append_assoc, rdN_of _ (by omega) (by omega)]
  show ((rdN 5 _).bind _ : Rs Od) = _
  rw [rdN_of _ (by omega) (by omega)]
  show ((rdN _ _).bind _ : Rs Od) = _
  rw [rdN_of _ ha (by omega)]
  show ((rdT _ _).bind _ : Rs Od) = _
  have e := rdT_vt 16 o.m [] (by omega)
  rw [List.append_nil, if_neg (by omega)] at e
  rw [e]
  show (Rs.ok (⟨((o.k.toNat : Nat) : Int), ((o.t.toNat : Nat) : Int), o.a, o.m⟩ : Od) [] : Rs Od) = _
  rw [Int.toNat_of_nonneg h1, Int.toNat_of_nonneg h3]
theorem dec_enc {o : Od} (h : o.right) (ha : o.a < 18446744073709551616) : dec14 o.enc = (0, o) := by
  unfold dec14
  rw [rdO_enc h ha]
  show (if ([] : List Nat) ≠ [] then _ else _) = _
  rw [if_neg (by simp), if_pos h]
/-- What is read, its parts one by one. -/
theorem rdO_ok {b rest : List Nat} {o : Od} (hs : Sm b) (h : rdO b = .ok o rest) : b = o.enc ++ rest ∧ 0 ≤ o.k ∧ 0 ≤ o.t ∧ o.a < 18446744073709551616 := by
  unfold rdO at h
  cases h1 : rdN 2 b with
  | er n => rw [h1] at h; cases h
  | ok k b1 =>
    rw [h1] at h
    obtain ⟨e1, f1, _⟩ := vn_rdN hs h1
    have hs1 : Sm b1 := (sm_split (e1 ▸ hs)).2
    change ((rdN 5 b1).bind _ : Rs Od) = _ at h
    cases h2 : rdN 5 b1 with
    | er n => rw [h2] at h; cases h
    | ok t b2 =>
      rw [h2] at h
      obtain ⟨e2, f2, _⟩ := vn_rdN hs1 h2
      have hs2 : Sm b2 := (sm_split (e2 ▸ hs1)).2
      change ((rdN 18446744073709551615 b2).bind _ : Rs Od) = _ at h
      cases h3 : rdN 18446744073709551615 b2 with
      | er n => rw [h3] at h; cases h
      | ok a b3 =>
        rw [h3] at h
        obtain ⟨e3, f3, g3⟩ := vn_rdN hs2 h3
        have hs3 : Sm b3 := (sm_split (e3 ▸ hs2)).2
        change ((rdT 16 b3).bind _ : Rs Od) = _ at h
        cases h4 : rdT 16 b3 with
        | er n => rw [h4] at h; cases h
        | ok m b4 =>
          rw [h4] at h
          obtain ⟨e4, _, _⟩ := vt_rdT hs3 h4
          have h' : (Rs.ok (⟨(k : Int), (t : Int), a, m⟩ : Od) b4 : Rs Od) = .ok o rest := h
          injection h' with h5 h6
          subst h5 h6
          refine ⟨?_, by dsimp only; omega, by dsimp only; omega, by dsimp only; omega⟩
          unfold Od.enc
          dsimp only
          rw [Int.toNat_natCast, Int.toNat_natCast, e1, e2, e3, e4]
          simp only [List.append_assoc]
theorem dec_ok {b : List Nat} (hs : Sm b) (h : (dec14 b).1 = 0) : (dec14 b).2.right ∧ (dec14 b).2.enc = b ∧ (dec14 b).2.a < 18446744073709551616 := by
  unfold dec14 at h ⊢
  cases h1 : rdO b with
  | er n =>
    rw [h1] at h
    exfalso
    have hn : n = 0 := h
    have : ∀ {α : Type} {r : Rs α} {f : α → List Nat → Rs Od} {n : Nat}, (∀ e, r = .er e → 0 < e) → (∀ a l, r = .ok a l → ∀ e, f a l = .er e → 0 < e) → r.bind f = .er n → 0 < n := fun {α} {r} {f} {n} h1 h2 h => by
      cases r with
      | er e => exact h1 _ (by injection h with h; rw [h])
      | ok a l => exact h2 a l rfl n h
    have h0 := this (fun e he => (rdN_er he).1) (fun k b1 _ e he => this (fun e he => (rdN_er he).1) (fun t b2 _ e he => this (fun e he => (rdN_er he).1) (fun a b3 _ e he => this (fun e he => (rdT_er he).1) (fun m b4 _ e he => by cases he) he) he) he) h1
    omega
  | ok o rest =>
    rw [h1] at h
    obtain ⟨e1, e2, e3, e4⟩ := rdO_ok hs h1
    dsimp only at h ⊢
    by_cases hr : rest = []
    · rw [if_neg (by simpa using hr)] at h ⊢
      by_cases ho : o.right
      · rw [if_pos ho] at h ⊢
        refine ⟨ho, ?_, e4⟩
        rw [e1, hr, List.append_nil]
      · rw [if_neg ho] at h
        cases h
    · rw [if_pos hr] at h
      cases h
theorem Od.enc_len {o : Od} (h : o.right) (ha : o.a < 18446744073709551616) : 4 ≤ o.enc.length ∧ o.enc.length ≤ 29 ∧ o.m.length < o.enc.length := by
  obtain ⟨h1, h2, h3, h4, h5⟩ := Od.right_bounds h
  have a1 := vn_pos o.k.toNat
  have a2 := vn_pos o.t.toNat
  have a3 := vn_pos o.a
  have a4 := vn_ten ha
  have b1 : (vn o.k.toNat).length = 1 := by rw [vn_lt (by omega)]; rfl
  have b2 : (vn o.t.toNat).length = 1 := by rw [vn_lt (by omega)]; rfl
  have b3 : (vn o.m.length).length = 1 := by rw [vn_lt (by omega)]; rfl
  unfold Od.enc vt
  simp only [List.length_append]
  omega
theorem Od.enc_sm {o : Od} (h : Sm o.m) : Sm o.enc := by
  unfold Od.enc
  exact sm_app (sm_app (sm_app (vn_sm _) (vn_sm _)) (vn_sm _)) (vt_sm h)
theorem Od.bytes_sm {o : Od} (h : Sm o.m) : Sm o.bytes := by
  unfold Od.bytes
  split
  · exact Od.enc_sm h
  · exact Sm.nil
theorem Od.bytes_len {o : Od} (ha : o.a < 18446744073709551616) : o.bytes.length ≤ 29 := by
  unfold Od.bytes
  split
  · rename_i h; exact (Od.enc_len h ha).2.1
  · simp
/-- Two orders that can be have the same bytes just if they are one. -/
theorem Od.enc_one {o p : Od} (ho : o.right) (hp : p.right) (ha : o.a < 18446744073709551616) (hb : p.a < 18446744073709551616) : o.enc = p.enc ↔ o = p := by
  constructor
  · intro h
    have h1 := rdO_enc ho ha
    rw [h, rdO_enc hp hb] at h1
    injection h1 with h1
    exact h1.symm
  · intro h; rw [h]
theorem dec_bounds {b : List Nat} (hs : Sm b) : (dec14 b).2.a < 18446744073709551616 ∧ (dec14 b).2.m.length ≤ 16 ∧ Sm (dec14 b).2.m := by
  by_cases h : (dec14 b).1 = 0
  · obtain ⟨h1, h2, h3⟩ := dec_ok hs h
    refine ⟨h3, h1.1, ?_⟩
    rw [← h2] at hs
    unfold Od.enc vt at hs
    exact (sm_split (sm_split hs).2).2
  · have hz : (dec14 b).2 = Od.zero := by
      unfold dec14 at h ⊢
      cases h1 : rdO b with
      | er n => rfl
      | ok o rest =>
        rw [h1] at h
        dsimp only at h ⊢
        split
        · rfl
        · rename_i hr
          rw [if_neg hr] at h
          split
          · rename_i ho; rw [if_pos ho] at h; exact absurd rfl h
          · rfl
    rw [hz]
    exact ⟨by decide, by decide, Sm.nil⟩
end Go.Proofs.Ytjifionpblpfoaa

/-
  Sums of bytes, filled texts. Conditions: none; no function is named here.
-/
namespace Go.Proofs.Ytjifionpblpfoaa
open Go.RowKit
open Pol (co Sm)

/-- Bytes, place by place the sums. -/
def lx (a b : List Nat) : List Nat := tab a.length (fun i => co a i ^^^ co b i)
theorem lx_len (a b : List Nat) : (lx a b).length = a.length := by unfold lx; rw [tab_len]
theorem lx_sm {a b : List Nat} (ha : Sm a) (hb : Sm b) : Sm (lx a b) := tab_sm _ _ fun i _ => Gf.xor_lt _ _ (ha i) (hb i)
theorem co_lx (a b : List Nat) (i : Nat) (hi : i < a.length) : co (lx a b) i = co a i ^^^ co b i := by unfold lx; rw [co_tab, if_pos hi]
theorem lx_back (a b : List Nat) : lx (lx a b) b = a := Lin.list_ext (by rw [lx_len, lx_len]) fun i hi => by
  rw [lx_len, lx_len] at hi
  rw [co_lx _ _ _ (by rw [lx_len]; exact hi), co_lx _ _ _ hi, Nat.xor_assoc, Nat.xor_self, Nat.xor_zero]
theorem lx_pad (o s : List Nat) (h : o.length = s.length) : lx o (lx o s) = s := Lin.list_ext (by rw [lx_len]; exact h) fun i hi => by
  rw [lx_len] at hi
  rw [co_lx _ _ _ hi, co_lx _ _ _ hi, ← Nat.xor_assoc, Nat.xor_self, Nat.zero_xor]
/-- A text with its length in front and 0 behind. -/
def FillOk (n : Nat) (m : Int) : Prop := 1 ≤ m ∧ m ≤ 256 ∧ (n : Int) < m
def fil (t : List Nat) (m : Nat) : List Nat := tab m (fun i => if i = 0 then t.length else co t (i - 1))
theorem fil_len (t : List Nat) (m : Nat) : (fil t m).length = m := by unfold fil; rw [tab_len]
theorem fil_sm {t : List Nat} {m : Nat} (h : Sm t) (ht : t.length < 256) : Sm (fil t m) := tab_sm _ _ fun i _ => by
  split
  · exact ht
  · exact h _
/-- What can be stripped, and what is left. -/
def Tail0 (b : List Nat) : Prop := co b 0 < b.length ∧ ∀ i, co b 0 < i → co b i = 0
def StripNum (n : Nat) : Prop := 1 ≤ n ∧ n ≤ 256
def strp (b : List Nat) : List Nat := tab (co b 0) (fun i => co b (i + 1))
theorem strp_len (b : List Nat) : (strp b).length = co b 0 := by unfold strp; rw [tab_len]
theorem strp_sm {b : List Nat} (h : Sm b) : Sm (strp b) := tab_sm _ _ fun _ _ => h _
/-- What was filled is stripped. -/
theorem fil_tail {t : List Nat} {m : Nat} (h : t.length < m) : Tail0 (fil t m) := by
  have h0 : co (fil t m) 0 = t.length := by unfold fil; rw [co_tab, if_pos (by omega), if_pos rfl]
  refine ⟨by rw [h0, fil_len]; exact h, fun i hi => ?_⟩
  rw [h0] at hi
  unfold fil
  rw [co_tab]
  split
  · rw [if_neg (by omega)]
    exact Pol.co_out _ _ (by omega)
  · rfl
theorem fil_strp {t : List Nat} {m : Nat} (h : t.length < m) : strp (fil t m) = t := by
  have h0 : co (fil t m) 0 = t.length := by unfold fil; rw [co_tab, if_pos (by omega), if_pos rfl]
  refine Lin.list_ext (by rw [strp_len, h0]) fun i hi => ?_
  rw [strp_len, h0] at hi
  unfold strp
  rw [co_tab, if_pos (by omega)]
  unfold fil
  rw [co_tab, if_pos (by omega), if_neg (by omega)]
  rfl
theorem strp_fil {b : List Nat} (h : Tail0 b) : fil (strp b) b.length = b := by
  refine Lin.list_ext (fil_len _ _) fun i hi => ?_
  rw [fil_len] at hi
  unfold fil
  rw [co_tab, if_pos hi]
  split
  · rename_i e
    rw [e, strp_len]
  · rename_i e
    unfold strp
    rw [co_tab]
    split
    · rw [show i - 1 + 1 = i from by omega]
    · exact (h.2 i (by omega)).symm

end Go.Proofs.Ytjifionpblpfoaa

/-
  Envelopes in plain numbers: which can be, their bytes, what is read of bytes, how an order is sealed and opened. Conditions: none; no function is named here.
-/
namespace Go.Proofs.Ytjifionpblpfoaa
open Go.RowKit
open Pol (co Sm)

/-- An envelope: whose it is, which one, its fee, the last slot, the body. -/
structure Ev where
  s : Int
  n : Nat
  f : Nat
  x : Nat
  b : List Nat
def Ev.zero : Ev := ⟨0, 0, 0, 0, []⟩
/-- Each number is one of 64 bits, each of the body's a byte. -/
structure Ev.Fit (e : Ev) : Prop where
  n : e.n < 18446744073709551616
  f : e.f < 18446744073709551616
  x : e.x < 18446744073709551616
  b : Sm e.b
/-- The error's number. -/
def Ev.chk (e : Ev) : Nat := if e.s < 0 ∨ 6 ≤ e.s then 1 else if 1152921504606846976 < e.f then 10 else if e.b.length < 1 ∨ 32 < e.b.length then 5 else 0
def Ev.ok (e : Ev) : Prop := 0 ≤ e.s ∧ e.s < 6 ∧ e.f ≤ 1152921504606846976 ∧ 1 ≤ e.b.length ∧ e.b.length ≤ 32
instance (e : Ev) : Decidable e.ok := inferInstanceAs (Decidable (_ ∧ _))
theorem Ev.chk_ok {e : Ev} : e.chk = 0 ↔ e.ok := by
  unfold Ev.chk Ev.ok
  constructor
  · intro h
    split at h
    · omega
    · split at h
      · omega
      · split at h <;> omega
  · intro h
    rw [if_neg (by omega), if_neg (by omega), if_neg (by omega)]
def Ev.enc (e : Ev) : List Nat := vn e.s.toNat ++ vn e.n ++ vn e.f ++ vn e.x ++ vt e.b
/-- The bytes, or none. -/
def Ev.bytes (e : Ev) : List Nat := if e.ok then e.enc else []
theorem Ev.enc_sm {e : Ev} (h : Sm e.b) : Sm e.enc := by
  unfold Ev.enc
  exact sm_app (sm_app (sm_app (sm_app (vn_sm _) (vn_sm _)) (vn_sm _)) (vn_sm _)) (vt_sm h)
theorem Ev.enc_len {e : Ev} (h : e.ok) (hf : e.Fit) : 6 ≤ e.enc.length ∧ e.enc.length ≤ 64 := by
  obtain ⟨h1, h2, h3, h4, h5⟩ := h
  have a1 := vn_pos e.s.toNat
  have a2 := vn_pos e.n
  have a3 := vn_pos e.f
  have a4 := vn_pos e.x
  have b1 : (vn e.s.toNat).length = 1 := by rw [vn_lt (by omega)]; rfl
  have b2 := vn_ten hf.n
  have b3 := vn_ten hf.f
  have b4 := vn_ten hf.x
  have b5 : (vn e.b.length).length = 1 := by rw [vn_lt (by omega)]; rfl
  unfold Ev.enc vt
  simp only [List.length_append]
  omega
/-- What is read, and what is left. -/
def rdE (b : List Nat) : Rs Ev := (rdN 5 b).bind fun s b1 => (rdN 18446744073709551615 b1).bind fun n b2 => (rdN 1152921504606846976 b2).bind fun f b3 => (rdN 18446744073709551615 b3).bind fun x b4 => (rdT 32 b4).bind fun t b5 => .ok ⟨(s : Int), n, f, x, t⟩ b5
def dec16 (b : List Nat) : Nat × Ev := match rdE b with
  | .er n => (n, Ev.zero)
  | .ok e rest => if rest ≠ [] then (3, Ev.zero) else if e.b = [] then (5, Ev.zero) else (0, e)
theorem rdE_enc {e : Ev} (h : e.ok) (hf : e.Fit) : rdE e.enc = .ok e [] := by
  obtain ⟨h1, h2, h3, h4, h5⟩ := h
  unfold rdE Ev.enc
  rw [List.append_assoc, List.append_assoc, List.append_assoc, rdN_of _ (by omega) (by omega)]
  show ((rdN _ _).bind _ : Rs Ev) = _
  rw [rdN_of _ hf.n (by have := hf.n; omega)]
  show ((rdN _ _).bind _ : Rs Ev) = _
  rw [rdN_of _ hf.f h3]
  show ((rdN _ _).bind _ : Rs Ev) = _
  rw [rdN_of _ hf.x (by have := hf.x; omega)]
  show ((rdT _ _).bind _ : Rs Ev) = _
  have q := rdT_vt 32 e.b [] (by omega)
  rw [List.append_nil, if_neg (by omega)] at q
  rw [q]
  show (Rs.ok (⟨((e.s.toNat : Nat) : Int), e.n, e.f, e.x, e.b⟩ : Ev) [] : Rs Ev) = _
  rw [Int.toNat_of_nonneg h1]
theorem dec16_enc {e : Ev} (h : e.ok) (hf : e.Fit) : dec16 e.enc = (0, e) := by
  unfold dec16
  rw [rdE_enc h hf]
  dsimp only
  rw [if_neg (by simp), if_neg (by intro h0; have := h.2.2.2.1; rw [h0] at this; simp at this)]
/-- What is read, its parts one by one. -/
theorem rdE_ok {b rest : List Nat} {e : Ev} (hs : Sm b) (h : rdE b = .ok e rest) : b = e.enc ++ rest ∧ 0 ≤ e.s ∧ e.s < 6 ∧ e.f ≤ 1152921504606846976 ∧ e.b.length ≤ 32 ∧ e.Fit := by
  unfold rdE at h
  cases h1 : rdN 5 b with
  | er n => rw [h1] at h; cases h
  | ok s b1 =>
    rw [h1] at h
    obtain ⟨e1, f1, g1⟩ := vn_rdN hs h1
    have hs1 : Sm b1 := (sm_split (e1 ▸ hs)).2
    change ((rdN 18446744073709551615 b1).bind _ : Rs Ev) = _ at h
    cases h2 : rdN 18446744073709551615 b1 with
    | er n => rw [h2] at h; cases h
    | ok n b2 =>
      rw [h2] at h
      obtain ⟨e2, f2, g2⟩ := vn_rdN hs1 h2
      have hs2 : Sm b2 := (sm_split (e2 ▸ hs1)).2
      change ((rdN 1152921504606846976 b2).bind _ : Rs Ev) = _ at h
      cases h3 : rdN 1152921504606846976 b2 with
      | er n => rw [h3] at h; cases h
      | ok f b3 =>
        rw [h3] at h
        obtain ⟨e3, f3, g3⟩ := vn_rdN hs2 h3
        have hs3 : Sm b3 := (sm_split (e3 ▸ hs2)).2
        change ((rdN 18446744073709551615 b3).bind _ : Rs Ev) = _ at h
        cases h4 : rdN 18446744073709551615 b3 with
        | er n => rw [h4] at h; cases h
        | ok x b4 =>
          rw [h4] at h
          obtain ⟨e4, f4, g4⟩ := vn_rdN hs3 h4
          have hs4 : Sm b4 := (sm_split (e4 ▸ hs3)).2
          change ((rdT 32 b4).bind _ : Rs Ev) = _ at h
          cases h5 : rdT 32 b4 with
          | er n => rw [h5] at h; cases h
          | ok t b5 =>
            rw [h5] at h
            obtain ⟨e5, f5, g5⟩ := vt_rdT hs4 h5
            have h' : (Rs.ok (⟨(s : Int), n, f, x, t⟩ : Ev) b5 : Rs Ev) = .ok e rest := h
            injection h' with h6 h7
            subst h6 h7
            have hst : Sm t := by
              rw [e5] at hs4
              unfold vt at hs4
              exact (sm_split (sm_split hs4).1).2
            refine ⟨?_, by dsimp only; omega, by dsimp only; omega, by dsimp only; omega, by dsimp only; omega, ⟨by dsimp only; omega, by dsimp only; omega, by dsimp only; omega, hst⟩⟩
            unfold Ev.enc
            dsimp only
            rw [Int.toNat_natCast, e1, e2, e3, e4, e5]
            simp only [List.append_assoc]
theorem dec16_ok {b : List Nat} (hs : Sm b) (h : (dec16 b).1 = 0) : (dec16 b).2.ok ∧ (dec16 b).2.enc = b ∧ (dec16 b).2.Fit := by
  unfold dec16 at h ⊢
  cases h1 : rdE b with
  | er n =>
    rw [h1] at h
    exfalso
    have hn : n = 0 := h
    have : ∀ {α : Type} {r : Rs α} {f : α → List Nat → Rs Ev} {n : Nat}, (∀ e, r = .er e → 0 < e) → (∀ a l, r = .ok a l → ∀ e, f a l = .er e → 0 < e) → r.bind f = .er n → 0 < n := fun {α} {r} {f} {n} h1 h2 h => by
      cases r with
      | er e => exact h1 _ (by injection h with h; rw [h])
      | ok a l => exact h2 a l rfl n h
    have h0 := this (fun e he => (rdN_er he).1) (fun k b1 _ e he => this (fun e he => (rdN_er he).1) (fun t b2 _ e he => this (fun e he => (rdN_er he).1) (fun a b3 _ e he => this (fun e he => (rdN_er he).1) (fun a b4 _ e he => this (fun e he => (rdT_er he).1) (fun m b5 _ e he => by cases he) he) he) he) he) h1
    omega
  | ok e rest =>
    rw [h1] at h
    obtain ⟨e1, e2, e3, e4, e5, e6⟩ := rdE_ok hs h1
    dsimp only at h ⊢
    by_cases hr : rest = []
    · rw [if_neg (by simpa using hr)] at h ⊢
      by_cases hb : e.b = []
      · rw [if_pos hb] at h
        cases h
      · rw [if_neg hb] at h ⊢
        refine ⟨⟨e2, e3, e4, List.length_pos_iff.2 hb, e5⟩, ?_, e6⟩
        rw [e1, hr, List.append_nil]
    · rw [if_pos hr] at h
      cases h
/-- Two envelopes that can be have the same bytes just if they are one. -/
theorem Ev.enc_one {e o : Ev} (he : e.ok) (ho : o.ok) (hf : e.Fit) (hg : o.Fit) : e.enc = o.enc ↔ e = o := by
  constructor
  · intro h
    have h1 := rdE_enc he hf
    rw [h, rdE_enc ho hg] at h1
    injection h1 with h1
    exact h1.symm
  · intro h; rw [h]
instance (n : Nat) (m : Int) : Decidable (FillOk n m) := inferInstanceAs (Decidable (_ ∧ _))
/-- An order under a pad. -/
def make16 (s : Int) (n f x : Nat) (o : Od) (p : List Nat) : Nat × Ev :=
  if ¬ o.right then (1, Ev.zero) else if ¬ FillOk o.bytes.length (p.length : Int) then (6, Ev.zero) else
    if (Ev.mk s n f x (lx (fil o.bytes p.length) p)).chk ≠ 0 then ((Ev.mk s n f x (lx (fil o.bytes p.length) p)).chk, Ev.zero) else (0, Ev.mk s n f x (lx (fil o.bytes p.length) p))
/-- The order that is sealed. -/
noncomputable def open16 (e : Ev) (p : List Nat) : Nat × Od := by
  classical
  exact if e.chk ≠ 0 then (e.chk, Od.zero) else if p.length ≠ e.b.length then (1, Od.zero) else
    if ¬ Tail0 (lx e.b p) then (15, Od.zero) else if (dec14 (strp (lx e.b p))).1 ≠ 0 then (15, Od.zero) else dec14 (strp (lx e.b p))
/-- What was made is opened under its pad. -/
theorem open_make {s : Int} {n f x : Nat} {o : Od} {p : List Nat} (ha : o.a < 18446744073709551616) (h : (make16 s n f x o p).1 = 0) : open16 (make16 s n f x o p).2 p = (0, o) := by
  unfold make16 at h ⊢
  by_cases hr : o.right
  · rw [if_neg (by simpa using hr)] at h ⊢
    by_cases hf : FillOk o.bytes.length (p.length : Int)
    · rw [if_neg (by simpa using hf)] at h ⊢
      generalize hb : lx (fil o.bytes p.length) p = b at h ⊢
      by_cases hc : (Ev.mk s n f x b).chk = 0
      · rw [if_neg (by simpa using hc)] at h ⊢
        have hlen : b.length = p.length := by rw [← hb, lx_len, fil_len]
        have hback : lx b p = fil o.bytes p.length := by rw [← hb, lx_back]
        have hlt : o.bytes.length < p.length := by have := hf.2.2; omega
        unfold open16
        dsimp only
        rw [if_neg (by simpa using hc), if_neg (by simpa using hlen.symm), hback, if_neg (by simpa using fil_tail hlt), fil_strp hlt]
        have hd : dec14 o.bytes = (0, o) := by unfold Od.bytes; rw [if_pos hr]; exact dec_enc hr ha
        rw [hd, if_neg (by simp)]
      · rw [if_pos hc] at h
        exact absurd h hc
    · rw [if_pos hf] at h
      cases h
  · rw [if_pos hr] at h
    cases h
end Go.Proofs.Ytjifionpblpfoaa

/-
  Calls that hand back a list, and a number. Conditions: none; no function is named here.
-/
namespace Go.Proofs.Ytjifionpblpfoaa
open Go.RowKit
open Pol (co Sm)

/-- A list, and a number. -/
def GivesE (l : List Nat) (n : Int) (w : World) (e : Ending) (w' : World) : Prop := ∃ v : Value, e = .returned (.tuple #[v, .int .i64 n]) ∧ Sl w' v l ∧ Ext w w'
theorem sl_none (w : World) : Sl w (.slice none 0 0) [] := ⟨none, 0, rfl, Nat.le_refl _, Rd.nil _ _⟩
theorem mine_one (w : World) (x : Nat) : Mine (w.alloc (.cells #[.int .u8 (x : Int)] 5)) w.heap.size (.slice (some ⟨w.heap.size, 0, none⟩) 1 1) [x] :=
  World.ownsRow_lit w #[.int .u8 (x : Int)] 1 (Nat.le_refl _) (by unfold maxLen; omega) rfl
end Go.Proofs.Ytjifionpblpfoaa

/-
  One place more. Conditions: none; no function is named here.
-/
namespace Go.Proofs.Ytjifionpblpfoaa
open Go.RowKit
open Pol (co Sm)

theorem tab_succ (n : Nat) (f : Nat → Nat) : tab (n + 1) f = tab n f ++ [f n] := by
  unfold tab
  rw [List.range_succ, List.map_append]
  rfl
theorem tab_zero (f : Nat → Nat) : tab 0 f = [] := rfl
end Go.Proofs.Ytjifionpblpfoaa

/-
  Slices of bytes of a call's own that are handed back. Conditions: none.
-/
namespace Go.Proofs.Ytjifionpblpfoaa
open Go.RowKit
open Pol (co Sm)

theorem mine_ext {w w' : World} {base : Nat} {v : Value} {l : List Nat} (h : Mine w base v l) (hx : Ext w w') : Mine w' base v l :=
  World.ownsRow.kept h (row := none) ⟨hx.below.os, hx.below.tape, hx.below.output, hx.below.size, fun k hk _ => hx.below.block k hk⟩ (by
    cases hb : v.ownBlock with
    | none => exact .inl rfl
    | some k => exact .inr (by simp))
theorem Mine.down {w : World} {base base' : Nat} {v : Value} {l : List Nat} (h : Mine w base v l) (hb : base' ≤ base) : Mine w base' v l :=
  ⟨h.1, h.2.imp id fun ⟨g, cap, cur, h1, h2, h3⟩ => ⟨g, cap, cur, h1, Nat.le_trans hb h2, h3⟩⟩
theorem Mine.nil (w : World) (base : Nat) : Mine w base (.slice none 0 0) [] := World.ownsRow_nil w base _ _
theorem Mine.block {w : World} {base : Nat} {v : Value} {l : List Nat} (h : Mine w base v l) : ∀ k, v.ownBlock = some k → base ≤ k ∧ k < w.heap.size := fun k hk => World.ownsRow.lt h k hk
/-- A list, in a block that was laid since. -/
def GivesM (l : List Nat) (w : World) (e : Ending) (w' : World) : Prop := ∃ v, e = .returned v ∧ Mine w' w.heap.size v l ∧ Sm l ∧ Ext w w'
theorem gives_m {w w' : World} {v : Value} {l m : List Nat} (hm : Mine w' w.heap.size v l) (hl : l = m) (hs : Sm m) (hx : Ext w w') : GivesM m w (.returned v) w' := by
  subst hl
  exact ⟨v, rfl, hm, hs, hx⟩
theorem GivesM.gives {l : List Nat} {w : World} {e : Ending} {w' : World} (h : GivesM l w e w') : Gives l w e w' := by
  obtain ⟨v, rfl, hm, hs, hx⟩ := h
  exact gives_of hm rfl hs hx
theorem GivesM.after {l : List Nat} {w w1 : World} {e : Ending} {w' : World} (h : GivesM l w1 e w') (hx : Ext w w1) : GivesM l w e w' := by
  obtain ⟨v, rfl, hm, hs, hx'⟩ := h
  exact ⟨v, rfl, hm.down hx.size, hs, hx.trans hx'⟩
end Go.Proofs.Ytjifionpblpfoaa

/-
  A region that draws its order, by an invariant: what holds of the listed operations, whichever they are, is kept by each operation that may come up next. Conditions: each operation waits for operations ahead of it in the text alone; of no program in particular.
-/
namespace Go.Proofs.Ytjifionpblpfoaa
open Go

section
variable {P : Program} {ops : Array Oper} {Q : Exit → Act → World → Prop}

theorem Oper.wp_then {o : Oper} {a : Act} {w : World} {K K' : Act → World → Prop} (h : ∀ a w, K' a w → K a w) (hh : o.wp P a w K' (Exit.then K Q)) : o.wp P a w K Q := by
  unfold Oper.wp at *
  generalize (execOp a.eval o).run P w = r at *
  cases r with
  | ok n w' =>
    cases n <;> simp only [Oper.upon] at hh ⊢ <;>
      first
        | exact h _ _ hh
        | exact Calls.mono hh (fun e w'' he => by cases e <;> first | exact h _ _ he | exact he)
        | exact Rows.mono hh (fun _ _ he => h _ _ he)
  | halt x w' => cases x <;> simp only [Oper.upon] at hh ⊢ <;> exact hh
theorem wpOp_of_one {i : Nat} {o : Oper} {a : Act} {w : World} {K : Act → World → Prop} (hi : ops[i]? = some o) (h : wpList P ops (Exit.then K Q) [o] a w) : wpOp P ops Q i K a w := by
  unfold wpOp
  rw [hi]
  simp only
  unfold wpList at h
  split
  · rename_i hw
    rw [if_pos hw] at h
    rcases h with h | h
    · exact .inl (Oper.wp_then (fun a w h => by unfold wpList at h; exact h) h)
    · exact .inr h
  · rename_i hw
    rw [if_neg hw] at h
    unfold wpList at h
    exact h
def depsB (l : List Oper) : Bool := (List.range l.length).all fun i => match l[i]? with | some o => o.after.all (fun e => decide (e.on < i)) | none => true
theorem depsB_spec {l : List Oper} (h : depsB l = true) {i : Nat} {o : Oper} (hi : l[i]? = some o) : ∀ e ∈ o.after, e.on < i := by
  have hlt : i < l.length := (List.getElem?_eq_some_iff.1 hi).1
  have h1 := List.all_eq_true.1 h i (List.mem_range.2 hlt)
  rw [hi] at h1
  intro e he
  have h2 := (Array.all_eq_true_iff_forall_mem.1 h1) e he
  simpa using h2
theorem getD_true_of {L : Array Bool} {k : Nat} (h : L.getD k false = true) : L.getD k true = true := by
  rw [Array.getD_eq_getD_getElem?] at h ⊢
  cases hk : L[k]? with
  | none => rfl
  | some b => rw [hk] at h; exact h
theorem getD_false_of {L : Array Bool} {k : Nat} (hk : k < L.size) (h : L.getD k true = true) : L.getD k false = true := by
  rw [Array.getD_eq_getD_getElem?] at h ⊢
  rw [Array.getElem?_eq_getElem hk] at h ⊢
  exact h
theorem getD_listed (L : Array Bool) (i j : Nat) : (L.setIfInBounds i true).getD j true = (j == i || L.getD j true) := by
  by_cases e : j = i
  · subst e
    rw [Array.getD_eq_getD_getElem?, Array.getElem?_setIfInBounds_self]
    split <;> simp
  · rw [getD_set_ne true (fun h => e h.symm), show (j == i) = false from beq_eq_false_iff_ne.2 e, Bool.false_or]

theorem wpAny_inv {l : List Oper} (I : (Nat → Bool) → Act → World → Prop) (hB : depsB l = true)
    (hs : ∀ i o, l[i]? = some o → ∀ L a w, I L a w → L i = false → (∀ e ∈ o.after, Region.binds .any e = true → L e.on = true) → wpList P l.toArray (Exit.then (fun a' w' => I (fun j => j == i || L j) a' w') Q) [o] a w)
    (he : ∀ L a w, (∀ i, i < l.length → L i = true) → I L a w → Q .normal a w) :
    ∀ (f : Nat) (L : Array Bool) (a : Act) (w : World) (U : List Nat), L.size = l.length → U.length = f → (∀ i, L.getD i true = false → i ∈ U) → I (fun i => L.getD i true) a w → wpAny P .any l.toArray Q f L a w := by
  have hall : ∀ L : Array Bool, L.size = l.length → Region.ready .any l.toArray L = [] → ∀ i, i < l.length → L.getD i true = true := fun L hsz hr i => by
    induction i using Nat.strongRecOn with
    | _ i ih =>
      intro hi
      cases hb : L.getD i true with
      | true => rfl
      | false =>
        have hoi : l.toArray[i]? = some l[i] := by simp [hi]
        have hm : i ∈ Region.ready .any l.toArray L := mem_ready.2 ⟨hb, _, hoi, fun e hee _ => by
          have hlt := depsB_spec hB (i := i) (o := l[i]) (by simp [hi]) e hee
          exact getD_false_of (by omega) (ih e.on hlt (by omega))⟩
        rw [hr] at hm
        cases hm
  intro f
  induction f with
  | zero =>
    intro L a w U hsz hU hin hI
    have hU0 : U = [] := List.eq_nil_of_length_eq_zero hU
    subst hU0
    have hL : ∀ i, L.getD i true = true := fun i => by
      cases hb : L.getD i true with
      | true => rfl
      | false => exact absurd (hin i hb) (by simp)
    refine ⟨?_, he _ a w (fun i _ => hL i) hI⟩
    rcases hr : Region.ready .any l.toArray L with _ | ⟨i, r⟩
    · rfl
    · have hm : i ∈ Region.ready .any l.toArray L := by rw [hr]; simp
      have := (mem_ready.1 hm).1
      rw [hL i] at this
      cases this
  | succ f ih =>
    intro L a w U hsz hU hin hI
    refine ⟨fun hr => he _ a w (hall L hsz hr) hI, fun i hi => ?_⟩
    obtain ⟨hun, o, ho, haft⟩ := mem_ready.1 hi
    have ho' : l[i]? = some o := by simpa using ho
    have h1 := hs i o ho' _ a w hI hun (fun e hee hb => getD_true_of (haft e hee hb))
    have hU' : (U.erase i).length = f := by rw [List.length_erase_of_mem (hin i hun)]; omega
    refine wpOp_mono (fun a' w' hI' => ?_) (wpOp_of_one ho h1)
    refine ih _ a' w' (U.erase i) (by simpa using hsz) hU' (fun j hj => ?_) ?_
    · rw [getD_listed, Bool.or_eq_false_iff] at hj
      exact (List.mem_erase_of_ne (by simpa using hj.1)).2 (hin j hj.2)
    · simp only [getD_listed]
      exact hI'
theorem wp_region_inv {id : Nat} {a : Act} {w : World} {l : List Oper} (I : (Nat → Bool) → Act → World → Prop) (hm : P.follows .mixedOrders = true) (hB : depsB l = true) (h0 : I (fun i => !decide (i < l.length)) a w.drew)
    (hs : ∀ i o, l[i]? = some o → ∀ L a w, I L a w → L i = false → (∀ e ∈ o.after, Region.binds .any e = true → L e.on = true) → wpList P l.toArray (Exit.then (fun a' w' => I (fun j => j == i || L j) a' w') Q) [o] a w)
    (he : ∀ L a w, (∀ i, i < l.length → L i = true) → I L a w → wpList P l.toArray Q [] a w) : (Code.region id l.toArray true).wp P Q a w := by
  have e0 : (fun i => (Array.replicate l.toArray.size false).getD i true) = fun i => !decide (i < l.length) := by
    funext i
    rw [Array.getD_eq_getD_getElem?, Array.getElem?_replicate]
    by_cases h : i < l.length <;> simp [h]
  refine wp_region_any hm ?_
  refine wpAny_inv I hB hs he l.toArray.size _ a _ (List.range l.length) (by simp) (by simp) (fun i hi => ?_) (by rw [e0]; exact h0)
  have h1 := congrFun e0 i
  rw [hi] at h1
  exact List.mem_range.2 (by simpa using h1.symm)
end
end Go.Proofs.Ytjifionpblpfoaa

/-
  A region that draws its order, some of whose operations only read what stays: these may be taken ahead of the others, and the others come one after the other. Conditions: a check of the region's text (by the kernel); of no program in particular.
-/
namespace Go.Proofs.Ytjifionpblpfoaa
open Go

section
variable {P : Program} {ops : Array Oper} {Q : Exit → Act → World → Prop} {md : Region.Mode} {C : World → Prop}

/-- In every world of the class the operation yields v and leaves the world alone. -/
def YieldsC (P : Program) (ops : Array Oper) (C : World → Prop) (o : Oper) (v : Value) (a : Act) : Prop :=
  (Region.wanted o (yielded ops a.tmps) = true ∧ ∀ w, C w → (execOp a.eval o).run P w = .ok (.value v) w) ∨ (Region.wanted o (yielded ops a.tmps) = false ∧ v = undef) ∨
    (Region.wanted o (yielded ops a.tmps) = true ∧ ∃ f args, (∀ w, C w → (execOp a.eval o).run P w = .ok (.enter f args) w) ∧ ∀ w, C w → Calls P f args w (fun e w' => e = .returned v ∧ w = w'))
theorem YieldsC.wpOp {i : Nat} {o : Oper} {v : Value} {a : Act} (hi : ops[i]? = some o) (hy : YieldsC P ops C o v a) {K : Act → World → Prop} {w : World} (hw : C w) (h : K (a.put o.dst v) w) : wpOp P ops Q i K a w := by
  unfold Go.wpOp
  simp only [hi]
  rcases hy with ⟨hg, hv⟩ | ⟨hg, rfl⟩ | ⟨hg, f, args, hv, hc⟩
  · simp only [hg, if_true, Oper.wp, hv w hw, Oper.upon]; exact .inl h
  · simp only [hg, Bool.false_eq_true, if_false]; exact h
  · simp only [hg, if_true, Oper.wp, hv w hw, Oper.upon]
    refine .inl (Calls.mono (hc w hw) ?_)
    rintro e w' ⟨rfl, rfl⟩
    exact h
theorem YieldsC.of_same {o : Oper} {v : Value} {a a' : Act} (hy : YieldsC P ops C o v a) (he : execOp a'.eval o = execOp a.eval o) (hw : Region.wanted o (yielded ops a'.tmps) = Region.wanted o (yielded ops a.tmps)) : YieldsC P ops C o v a' := by
  unfold YieldsC at *
  rw [he, hw]
  exact hy
theorem wpOp_putC {j : Nat} {oi oj : Oper} {v : Value} (hj : ops[j]? = some oj) (hap : oi.apart ops oj = true) (hsi : ∀ cs b, oi.op ≠ .select cs b) (hsj : ∀ cs b, oj.op ≠ .select cs b)
    (hQ : ∀ c a w, Q (.panic c) (a.put oi.dst v) w → Q (.panic c) a w) {K : Act → World → Prop} {a : Act} {w : World} (hy : YieldsC P ops C oi v a) (h : wpOp P ops Q j K (a.put oi.dst v) w) :
    wpOp P ops Q j (fun a' w' => YieldsC P ops C oi v a' ∧ K (a'.put oi.dst v) w') a w := by
  obtain ⟨h1, h2, h3⟩ := Oper.apart_spec hap
  have keep : ∀ (a : Act), YieldsC P ops C oi v a → ∀ u, YieldsC P ops C oi v (a.put oj.dst u) := fun a hy u => hy.of_same (execOp_put oi hsi a oj.dst u h3) (wanted_put oi a oj.dst u h3)
  have keepD : ∀ d, YieldsC P ops C oi v { a with defers := d :: a.defers } := fun d => hy.of_same rfl rfl
  unfold wpOp at *
  simp only [hj] at *
  rw [wanted_put oj a oi.dst v h1] at h
  split
  · rename_i hw
    simp only [hw, if_true] at h
    rcases h with h | ⟨hasks, hlets⟩
    case inr => exact .inr ⟨by unfold Oper.asks at *; rw [execOp_put oj hsj a oi.dst v h1] at hasks; exact hasks, hlets⟩
    refine .inl ?_
    unfold Oper.wp at *
    rw [execOp_put oj hsj a oi.dst v h1] at h
    generalize (execOp a.eval oj).run P w = r at *
    cases r with
    | ok n w' =>
      cases n <;> simp only [Oper.upon] at h ⊢
      case value u => exact ⟨keep a hy u, by rw [← Act.put_comm a v u h2]; exact h⟩
      case skip => exact ⟨keep a hy _, by rw [← Act.put_comm a v undef h2]; exact h⟩
      case defer d =>
        refine ⟨keep _ (keepD d) _, ?_⟩
        rw [← Act.put_comm _ v undef h2, ← Act.put_defers]
        exact h
      case enter f args =>
        refine Calls.mono h fun e w'' he => ?_
        cases e with
        | returned u => exact ⟨keep a hy u, by rw [← Act.put_comm a v u h2]; exact he⟩
        | panicked c => exact hQ _ _ _ he
        | outgrown => exact he
      case row row args => exact Rows.mono h fun u w'' he => ⟨keep a hy u, by rw [← Act.put_comm a v u h2]; exact he⟩
    | halt x w' =>
      cases x <;> simp only [Oper.upon] at h ⊢
      case panic u => exact hQ _ _ _ h
  · rename_i hw
    simp only [hw] at h
    exact ⟨keep a hy _, by rw [← Act.put_comm a v undef h2]; exact h⟩

/-- As wpAny, and the operations of F leave the world in the class. -/
def wpAnyC (P : Program) (md : Region.Mode) (ops : Array Oper) (C : World → Prop) (F : Nat → Bool) (Q : Exit → Act → World → Prop) : Nat → Array Bool → Act → World → Prop
  | 0, listed, a, w => Region.ready md ops listed = [] ∧ Q .normal a w
  | fuel + 1, listed, a, w => (Region.ready md ops listed = [] → Q .normal a w) ∧ ∀ i ∈ Region.ready md ops listed, wpOp P ops Q i (fun a' w' => (F i = true → C w') ∧ wpAnyC P md ops C F Q fuel (listed.setIfInBounds i true) a' w') a w
theorem wpAny_of_C {F : Nat → Bool} : ∀ (fuel : Nat) (listed : Array Bool) (a : Act) (w : World), wpAnyC P md ops C F Q fuel listed a w → wpAny P md ops Q fuel listed a w
  | 0, _, _, _, h => h
  | fuel + 1, _, _, _, h => ⟨h.1, fun i hi => wpOp_mono (fun a' w' h' => wpAny_of_C fuel _ a' w' h'.2) (h.2 i hi)⟩
/-- What is listed waits for nothing that is not. -/
def Closed (md : Region.Mode) (ops : Array Oper) (listed : Array Bool) : Prop := ∀ j oj, ops[j]? = some oj → listed.getD j false = true → ∀ e ∈ oj.after, Region.binds md e = true → listed.getD e.on false = true
theorem Closed.set {listed : Array Bool} (h : Closed md ops listed) {i : Nat} (hi : i ∈ Region.ready md ops listed) : Closed md ops (listed.setIfInBounds i true) := fun j oj hoj hl e he hb => by
  by_cases hji : j = i
  · subst hji
    obtain ⟨_, o, ho, hall⟩ := mem_ready.1 hi
    rw [hoj] at ho
    injection ho with ho
    subst ho
    exact getD_set_true (hall e he hb)
  · rw [getD_set_ne false (fun h => hji h.symm)] at hl
    exact getD_set_true (h j oj hoj hl e he hb)
/-- What stands behind i; what is not of F does. -/
def bhStep (md : Region.Mode) (ops : Array Oper) (i : Nat) (acc : List Nat) (j : Nat) : List Nat :=
  match ops[j]? with
  | some oj => if oj.after.any (fun e => Region.binds md e && (e.on == i || acc.contains e.on)) then j :: acc else acc
  | none => acc
def behindB (md : Region.Mode) (ops : Array Oper) (F : Nat → Bool) (i : Nat) : Bool :=
  (List.range ops.size).all fun j => j == i || F j || ((List.range ops.size).foldl (bhStep md ops i) []).contains j
theorem bh_fold {i : Nat} {listed : Array Bool} (hc : Closed md ops listed) (hi : listed.getD i false = false) : ∀ (l acc : List Nat), (∀ j ∈ acc, listed.getD j false = false ∧ j ∉ Region.ready md ops listed) →
    ∀ j ∈ l.foldl (bhStep md ops i) acc, listed.getD j false = false ∧ j ∉ Region.ready md ops listed
  | [], acc, h => h
  | k :: l, acc, h => by
    refine bh_fold hc hi l (bhStep md ops i acc k) ?_
    unfold bhStep
    cases hk : ops[k]? with
    | none => exact h
    | some ok =>
      simp only
      split
      · rename_i hany
        intro j hj
        rcases List.mem_cons.1 hj with e | e
        · subst e
          obtain ⟨e, he, hb⟩ := Array.any_eq_true'.1 hany
          simp only [Bool.and_eq_true, Bool.or_eq_true, beq_iff_eq] at hb
          have hno : listed.getD e.on false = false := by
            rcases hb.2 with h2 | h2
            · rw [h2]; exact hi
            · exact (h e.on (by simpa using h2)).1
          constructor
          · cases hl : listed.getD j false with
            | false => rfl
            | true =>
              have := hc j ok hk hl e he hb.1
              rw [hno] at this
              cases this
          · intro hr
            obtain ⟨_, o, ho, hall⟩ := mem_ready.1 hr
            rw [hk] at ho
            injection ho with ho
            subst ho
            have := hall e he hb.1
            rw [hno] at this
            cases this
        · exact h j e
      · exact h
theorem behind_not {F : Nat → Bool} {i : Nat} (hB : behindB md ops F i = true) {listed : Array Bool} (hc : Closed md ops listed) (hi : listed.getD i false = false) :
    ∀ j, j < ops.size → j ≠ i → F j = false → listed.getD j false = false ∧ j ∉ Region.ready md ops listed := fun j hj hji hF => by
  have h1 := List.all_eq_true.1 hB j (List.mem_range.2 hj)
  simp only [hF, Bool.or_false, Bool.or_eq_true, beq_iff_eq, hji, false_or] at h1
  exact bh_fold hc hi _ [] (fun _ h => absurd h (by simp)) j (by simpa using h1)

theorem wpAnyC_first {F : Nat → Bool} {i : Nat} {oi : Oper} {v : Value} (hi : ops[i]? = some oi) (hsel : ∀ (j : Nat) (o : Oper) cs b, ops[j]? = some o → o.op ≠ .select cs b)
    (hQ : ∀ c a w, Q (.panic c) (a.put oi.dst v) w → Q (.panic c) a w) (hB : behindB md ops F i = true) :
    ∀ (fuel : Nat) (listed : Array Bool) (a : Act) (w : World), C w → Closed md ops listed →
      (∀ j oj, ops[j]? = some oj → j ≠ i → listed.getD j true = false → (∀ e ∈ oj.after, Region.binds md e = true → e.on ≠ i) → oi.apart ops oj = true) →
      i ∈ Region.ready md ops listed → YieldsC P ops C oi v a →
      wpAnyC P md ops C F Q fuel (listed.setIfInBounds i true) (a.put oi.dst v) w → wpAnyC P md ops C F Q (fuel + 1) listed a w := by
  intro fuel
  induction fuel with
  | zero =>
    intro listed a w hC _ _ hr hy H
    refine ⟨fun h => (by rw [h] at hr; cases hr), fun j hj => ?_⟩
    by_cases hji : j = i
    · subst hji; exact hy.wpOp hi hC ⟨fun _ => hC, H⟩
    · have := ready_mono hj hji
      rw [H.1] at this
      cases this
  | succ fuel ih =>
    intro listed a w hC hcl hfree hr hy H
    refine ⟨fun h => (by rw [h] at hr; cases hr), fun j hj => ?_⟩
    by_cases hji : j = i
    · subst hji; exact hy.wpOp hi hC ⟨fun _ => hC, H⟩
    · have h1 := H.2 j (ready_mono hj hji)
      obtain ⟨hjun, oj, hoj, hall⟩ := mem_ready.1 hj
      have hiun := (mem_ready.1 hr).1
      have hnot : ∀ e ∈ oj.after, Region.binds md e = true → e.on ≠ i := fun e he hb heq => by
        have h1 := hall e he hb
        rw [heq, getD_both hiun] at h1
        cases h1
      have hFj : F j = true := by
        cases hF : F j with
        | true => rfl
        | false => exact absurd hj (behind_not hB hcl (getD_both hiun) j (Array.getElem?_eq_some_iff.1 hoj).1 hji hF).2
      have h2 := wpOp_putC hoj (hfree j oj hoj hji hjun hnot) (fun cs b => hsel i oi cs b hi) (fun cs b => hsel j oj cs b hoj) hQ hy h1
      have hfree' : ∀ k ok, ops[k]? = some ok → k ≠ i → (listed.setIfInBounds j true).getD k true = false →
          (∀ e ∈ ok.after, Region.binds md e = true → e.on ≠ i) → oi.apart ops ok = true := fun k ok hk hki hun hno => by
        refine hfree k ok hk hki ?_ hno
        by_cases hjk : j = k
        · subst hjk; exact hjun
        · rw [getD_set_ne true hjk] at hun; exact hun
      refine wpOp_mono (fun a' w' h3 => ⟨fun _ => h3.2.1 hFj, ih (listed.setIfInBounds j true) a' w' (h3.2.1 hFj) (hcl.set hj) hfree' (ready_mono hr (Ne.symm hji)) h3.1 ?_⟩) h2
      rw [Array.setIfInBounds_comm _ _ hji]
      exact h3.2.2

/-- The walk: an operation that only reads what stays (true), or the only one that may come up (false). -/
def wpStab (P : Program) (l : List Oper) (C : World → Prop) (F : Nat → Bool) (Q : Exit → Act → World → Prop) : List (Nat × Bool) → Act → World → Prop
  | [], a, w => wpList P l.toArray Q [] a w
  | (i, true) :: π, a, w => ∃ o v, l[i]? = some o ∧ YieldsC P l.toArray C o v a ∧ wpStab P l C F Q π (a.put o.dst v) w
  | (i, false) :: π, a, w => ∃ o, l[i]? = some o ∧ wpList P l.toArray (Exit.then (fun a' w' => (F i = true → C w') ∧ wpStab P l C F Q π a' w') Q) [o] a w
theorem stab_yes {F : Nat → Bool} {l : List Oper} {i : Nat} {o : Oper} {π : List (Nat × Bool)} {a : Act} {w : World} (ho : l[i]? = some o)
    (h : ∀ K : Act → Prop, (∀ a', wpStab P l C F Q π a' w → K a') → Region.wanted o (yielded l.toArray a.tmps) = true ∧ ∃ v, (∀ W, C W → (execOp a.eval o).run P W = .ok (.value v) W) ∧ K (a.put o.dst v)) : wpStab P l C F Q ((i, true) :: π) a w := by
  obtain ⟨h1, v, h2, h3⟩ := h (fun a' => wpStab P l C F Q π a' w) (fun _ h => h)
  exact ⟨o, v, ho, .inl ⟨h1, h2⟩, h3⟩
theorem stab_call {F : Nat → Bool} {l : List Oper} {i : Nat} {o : Oper} {π : List (Nat × Bool)} {a : Act} {w : World} (ho : l[i]? = some o)
    (h : ∀ K : Act → Prop, (∀ a', wpStab P l C F Q π a' w → K a') → Region.wanted o (yielded l.toArray a.tmps) = true ∧ ∃ f args v, (∀ W, C W → (execOp a.eval o).run P W = .ok (.enter f args) W) ∧ (∀ W, C W → Calls P f args W (fun e w' => e = .returned v ∧ W = w')) ∧ K (a.put o.dst v)) : wpStab P l C F Q ((i, true) :: π) a w := by
  obtain ⟨h1, f, args, v, h2, h3, h4⟩ := h (fun a' => wpStab P l C F Q π a' w) (fun _ h => h)
  exact ⟨o, v, ho, .inr (.inr ⟨h1, f, args, h2, h3⟩), h4⟩
theorem stab_one {F : Nat → Bool} {l : List Oper} {i : Nat} {o : Oper} {π : List (Nat × Bool)} {a : Act} {w : World} (ho : l[i]? = some o)
    (h : ∀ K : Act → World → Prop, (∀ a' w', (F i = true → C w') ∧ wpStab P l C F Q π a' w' → K a' w') → wpList P l.toArray (Exit.then K Q) [o] a w) : wpStab P l C F Q ((i, false) :: π) a w :=
  ⟨o, ho, h _ (fun _ _ h => h)⟩
/-- The check: c says whether the world is in the class. -/
def stabB (md : Region.Mode) (ops : Array Oper) (F : Nat → Bool) : Bool → List (Nat × Bool) → Array Bool → Bool
  | _, [], listed => (Region.ready md ops listed).isEmpty
  | c, (i, true) :: π, listed => c && (Region.ready md ops listed).contains i && Region.free md ops listed i && behindB md ops F i && stabB md ops F c π (listed.setIfInBounds i true)
  | c, (i, false) :: π, listed => (Region.ready md ops listed == [i]) && stabB md ops F (c && F i) π (listed.setIfInBounds i true)
theorem wpAnyC_of_stab {F : Nat → Bool} {l : List Oper} (hsel : Region.noSelect l.toArray = true) (hQ : ∀ c a a' w, a.defers = a'.defers → Q (.panic c) a w → Q (.panic c) a' w) :
    ∀ (π : List (Nat × Bool)) (c : Bool) (listed : Array Bool) (a : Act) (w : World), (c = true → C w) → Closed md l.toArray listed → stabB md l.toArray F c π listed = true → wpStab P l C F Q π a w → wpAnyC P md l.toArray C F Q π.length listed a w
  | [], _, listed, a, w, _, _, hB, h => ⟨by simpa [stabB] using hB, h⟩
  | (i, true) :: π, c, listed, a, w, hC, hcl, hB, h => by
    obtain ⟨o, v, ho0, hy, hK⟩ := h
    have ho : l.toArray[i]? = some o := by simpa using ho0
    simp only [stabB, Bool.and_eq_true] at hB
    obtain ⟨⟨⟨⟨hc, hr⟩, hf⟩, hb⟩, hrest⟩ := hB
    have hr' : i ∈ Region.ready md l.toArray listed := by simpa using hr
    exact wpAnyC_first ho (Region.noSelect_spec hsel) (fun ch a w h => hQ ch _ _ w (by cases o.dst <;> rfl) h) hb π.length listed a w (hC hc) hcl (Region.free_spec ho hf) hr' hy
      (wpAnyC_of_stab hsel hQ π c _ _ _ hC (hcl.set hr') hrest hK)
  | (i, false) :: π, c, listed, a, w, hC, hcl, hB, h => by
    obtain ⟨o, ho0, hK⟩ := h
    have ho : l.toArray[i]? = some o := by simpa using ho0
    simp only [stabB, Bool.and_eq_true] at hB
    obtain ⟨hr, hrest⟩ := hB
    have hr1 : Region.ready md l.toArray listed = [i] := by simpa using hr
    have hr' : i ∈ Region.ready md l.toArray listed := by rw [hr1]; simp
    refine ⟨fun h0 => absurd h0 (by rw [hr1]; simp), fun j hj => ?_⟩
    obtain rfl : j = i := by rw [hr1] at hj; simpa using hj
    refine wpOp_mono (fun a' w' h' => ⟨h'.1, wpAnyC_of_stab hsel hQ π (c && F j) _ a' w' (fun hcf => ?_) (hcl.set hr') hrest h'.2⟩) (wpOp_of_one ho hK)
    rw [Bool.and_eq_true] at hcf
    exact h'.1 hcf.2
theorem wp_region_stab {id : Nat} {a : Act} {w : World} {l : List Oper} (C : World → Prop) (F : List Nat) (π : List (Nat × Bool)) (hm : P.follows .mixedOrders = true) (hQ : ∀ c a a' w, a.defers = a'.defers → Q (.panic c) a w → Q (.panic c) a' w)
    (hB : (Region.noSelect l.toArray && (π.length == l.length) && stabB .any l.toArray (fun i => F.contains i) true π (Array.replicate l.length false)) = true) (hC : C w.drew) (h : wpStab P l C (fun i => F.contains i) Q π a w.drew) : (Code.region id l.toArray true).wp P Q a w := by
  simp only [Bool.and_eq_true, beq_iff_eq] at hB
  obtain ⟨⟨hsel, hlen⟩, hst⟩ := hB
  refine wp_region_any hm (wpAny_of_C (C := C) (F := fun i => F.contains i) _ _ _ _ ?_)
  have h1 := wpAnyC_of_stab (P := P) (Q := Q) (C := C) (md := .any) hsel hQ π true (Array.replicate l.length false) a w.drew (fun _ => hC) (fun j oj _ hl => by rw [getD_replicate_false] at hl; cases hl) hst h
  rw [hlen] at h1
  have hsz : l.toArray.size = l.length := by simp
  rw [hsz]
  exact h1
end
/-- Two cells, and what they hold. -/
def Two (p : Addr) (v : Value) (q : Addr) (u : Value) (W : World) : Prop := W.cell? p = some v ∧ W.cell? q = some u
end Go.Proofs.Ytjifionpblpfoaa
