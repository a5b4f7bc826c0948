/-
  Part 1 of the texts that the seat's proofs stand on; each part of it begins with its own sentence and conditions. Conditions: those that each theorem names.
-/
import Derived.WalkKit
import Derived.Lib.Hide
import Derived.Deep.QuietTactic
import Derived.BigQuiet
import Derived.Deep.WholeRow
import Derived.Deep.MidRow
import Derived.Deep.LoopGhost
import Derived.Laws.BitsAllLaws
import Derived.OpenShut
import Derived.Test.YtnfgokbopndmgaaProg
import Derived.Maps.AppendAt
import Derived.Orders

/-
  The plain mathematics of the field with 256 elements, on natural numbers: the powers of 3, their exponents, products, quotients and powers, and the laws that they keep. Conditions: none; nothing of the program is named here.
-/
namespace Gf

/-- Times 2, modulo x^8 + x^4 + x^3 + x + 1. -/
def dbl (a : Nat) : Nat := ((2 * a) % 256) ^^^ (if a < 128 then 0 else 27)
/-- Times 3. -/
def tri (a : Nat) : Nat := dbl a ^^^ a
/-- The powers of 3. -/
def pw : Nat → Nat
  | 0 => 1
  | n + 1 => tri (pw n)
/-- The table of exponents behind k rounds. -/
def lt : Nat → Nat → Nat
  | 0, _ => 0
  | k + 1, x => if x = pw k then k else lt k x
def lg (x : Nat) : Nat := lt 255 x
def mul (a b : Nat) : Nat := if a = 0 ∨ b = 0 then 0 else pw ((lg a + lg b) % 255)
def quo (a b : Nat) : Nat := if a = 0 then 0 else pw ((lg a + 255 - lg b) % 255)
def pow (a n : Nat) : Nat := if n = 0 then 1 else if a = 0 then 0 else pw ((lg a * (n % 255)) % 255)

def run : Nat → Nat → List Nat
  | 0, _ => []
  | n + 1, x => x :: run n (tri x)

theorem run_at : ∀ (n i s : Nat), i < n → (run n (pw s))[i]? = some (pw (s + i))
  | 0, _, _, h => by omega
  | n + 1, 0, s, _ => by simp [run]
  | n + 1, i + 1, s, h => by
    have := run_at n i (s + 1) (by omega)
    simp only [run, List.getElem?_cons_succ]
    rw [show tri (pw s) = pw (s + 1) from rfl, this]
    congr 2; omega

theorem run_len : ∀ (n x : Nat), (run n x).length = n
  | 0, _ => rfl
  | n + 1, x => by simp [run, run_len n]

theorem tab_nodup : (run 255 1).Nodup := by decide +kernel
theorem tab_all : ∀ a, a < 256 → a ≠ 0 → a ∈ run 255 1 := by decide +kernel
theorem tab_small : ∀ a ∈ run 255 1, a ≠ 0 ∧ a < 256 := by decide +kernel
theorem tri_add : ∀ a, a < 256 → ∀ b, b < 256 → tri (a ^^^ b) = tri a ^^^ tri b := by decide +kernel
theorem tri_lt : ∀ a, a < 256 → tri a < 256 := by decide +kernel
theorem dbl_lt : ∀ a, a < 256 → dbl a < 256 := by decide +kernel
theorem pw_255 : pw 255 = 1 := by decide +kernel

theorem tab_at (i : Nat) (h : i < 255) : (run 255 1)[i]? = some (pw i) := by
  have := run_at 255 i 0 h
  simpa [pw] using this

theorem pw_inj (i j : Nat) (hi : i < 255) (hj : j < 255) (h : pw i = pw j) : i = j := by
  have a := tab_at i hi
  have b := tab_at j hj
  rw [← h] at b
  have hl := run_len 255 1
  obtain ⟨_, ea⟩ := List.getElem?_eq_some_iff.1 a
  obtain ⟨_, eb⟩ := List.getElem?_eq_some_iff.1 b
  have hp := List.pairwise_iff_getElem.1 tab_nodup
  rcases Nat.lt_trichotomy i j with hlt | he | hlt
  · exact absurd (ea.trans eb.symm) (hp i j _ _ hlt)
  · exact he
  · exact absurd (eb.trans ea.symm) (hp j i _ _ hlt)

theorem pw_add255 : ∀ n, pw (n + 255) = pw n
  | 0 => by rw [Nat.zero_add]; exact pw_255
  | n + 1 => by
    rw [show n + 1 + 255 = (n + 255) + 1 from by omega]
    show tri (pw (n + 255)) = tri (pw n)
    rw [pw_add255 n]

theorem pw_mul255 (n : Nat) : ∀ k, pw (n + 255 * k) = pw n
  | 0 => rfl
  | k + 1 => by rw [show n + 255 * (k + 1) = (n + 255 * k) + 255 from by omega, pw_add255, pw_mul255 n k]

theorem pw_mod (n : Nat) : pw (n % 255) = pw n := by
  have := pw_mul255 (n % 255) (n / 255)
  rw [show n % 255 + 255 * (n / 255) = n from by omega] at this
  exact this.symm

theorem pw_bd (n : Nat) : pw n ≠ 0 ∧ pw n < 256 := by
  rw [← pw_mod]
  exact tab_small _ (List.mem_of_getElem? (tab_at _ (by omega)))

theorem lt_pw (k i : Nat) (hk : k ≤ 255) (hi : i < k) : lt k (pw i) = i := by
  induction k with
  | zero => omega
  | succ k ih =>
    unfold lt
    by_cases e : i = k
    · subst e; simp
    · rw [if_neg (fun h => e (pw_inj i k (by omega) (by omega) h))]
      exact ih (by omega) (by omega)

theorem lg_pw (i : Nat) (hi : i < 255) : lg (pw i) = i := lt_pw 255 i (by omega) hi

theorem is_pw (a : Nat) (h : a < 256) (h0 : a ≠ 0) : ∃ i, i < 255 ∧ pw i = a := by
  obtain ⟨i, hi⟩ := List.getElem?_of_mem (tab_all a h h0)
  have hl : i < 255 := by
    have := (List.getElem?_eq_some_iff.1 hi).1
    rwa [run_len] at this
  exact ⟨i, hl, by rw [tab_at i hl] at hi; exact Option.some.inj hi⟩

theorem lt_lt : ∀ (k x : Nat), k ≤ 256 → lt k x < 256
  | 0, _, _ => by simp [lt]
  | k + 1, x, h => by
    unfold lt
    split
    · omega
    · exact lt_lt k x (by omega)

theorem lg_lt (x : Nat) : lg x < 255 := by
  have : ∀ k, k ≤ 255 → lt k x < 255 := by
    intro k
    induction k with
    | zero => intro _; simp [lt]
    | succ k ih =>
      intro h
      unfold lt
      split
      · omega
      · exact ih (by omega)
  exact this 255 (by omega)

theorem pw_lg (a : Nat) (h : a < 256) (h0 : a ≠ 0) : pw (lg a) = a := by
  obtain ⟨i, hi, rfl⟩ := is_pw a h h0
  rw [lg_pw i hi]

theorem mul_pw (i j : Nat) : mul (pw i) (pw j) = pw (i + j) := by
  unfold mul
  rw [if_neg (by have := pw_bd i; have := pw_bd j; omega)]
  rw [← pw_mod i, ← pw_mod j, lg_pw _ (by omega), lg_pw _ (by omega), pw_mod, ← pw_mod (i + j), ← pw_mod (i % 255 + j % 255)]
  congr 1; omega

theorem mul_zero (a : Nat) : mul a 0 = 0 := by simp [mul]
theorem zero_mul (a : Nat) : mul 0 a = 0 := by simp [mul]
theorem mul_comm (a b : Nat) : mul a b = mul b a := by
  unfold mul
  rw [Nat.add_comm (lg a)]
  by_cases h : a = 0 ∨ b = 0
  · rw [if_pos h, if_pos h.symm]
  · rw [if_neg h, if_neg (fun k => h k.symm)]

theorem mul_lt (a b : Nat) : mul a b < 256 := by
  unfold mul
  split
  · omega
  · exact (pw_bd _).2

theorem mul_ne (a b : Nat) (h : a ≠ 0) (k : b ≠ 0) : mul a b ≠ 0 := by
  unfold mul
  rw [if_neg (by omega)]
  exact (pw_bd _).1

theorem mul_assoc (a b c : Nat) (ha : a < 256) (hb : b < 256) (hc : c < 256) : mul (mul a b) c = mul a (mul b c) := by
  by_cases a0 : a = 0
  · subst a0; simp [zero_mul]
  by_cases b0 : b = 0
  · subst b0; simp [zero_mul, mul_zero]
  by_cases c0 : c = 0
  · subst c0; simp [mul_zero]
  obtain ⟨i, _, rfl⟩ := is_pw a ha a0
  obtain ⟨j, _, rfl⟩ := is_pw b hb b0
  obtain ⟨k, _, rfl⟩ := is_pw c hc c0
  simp only [mul_pw]
  congr 1; omega

def tris : Nat → Nat → Nat
  | 0, x => x
  | n + 1, x => tri (tris n x)
theorem tris_lt : ∀ (n x : Nat), x < 256 → tris n x < 256
  | 0, _, h => h
  | n + 1, x, h => tri_lt _ (tris_lt n x h)
theorem tris_add : ∀ (n a b : Nat), a < 256 → b < 256 → tris n (a ^^^ b) = tris n a ^^^ tris n b
  | 0, _, _, _, _ => rfl
  | n + 1, a, b, ha, hb => by
    show tri (tris n (a ^^^ b)) = tri (tris n a) ^^^ tri (tris n b)
    rw [tris_add n a b ha hb, tri_add _ (tris_lt n a ha) _ (tris_lt n b hb)]
theorem tris_zero : ∀ n, tris n 0 = 0
  | 0 => rfl
  | n + 1 => by show tri (tris n 0) = 0; rw [tris_zero n]; rfl
theorem tris_pw : ∀ n j, tris n (pw j) = pw (n + j)
  | 0, j => by simp [tris]
  | n + 1, j => by
    show tri (tris n (pw j)) = _
    rw [tris_pw n j, show n + 1 + j = (n + j) + 1 from by omega]; rfl
theorem mul_tris (i b : Nat) (hb : b < 256) : mul (pw i) b = tris i b := by
  by_cases b0 : b = 0
  · subst b0; rw [mul_zero, tris_zero]
  · obtain ⟨j, _, rfl⟩ := is_pw b hb b0
    rw [mul_pw, tris_pw]

theorem xor_lt (a b : Nat) (ha : a < 256) (hb : b < 256) : a ^^^ b < 256 := Nat.xor_lt_two_pow (n := 8) ha hb

theorem mul_add (a b c : Nat) (ha : a < 256) (hb : b < 256) (hc : c < 256) : mul a (b ^^^ c) = mul a b ^^^ mul a c := by
  by_cases a0 : a = 0
  · subst a0; simp [zero_mul]
  obtain ⟨i, _, rfl⟩ := is_pw a ha a0
  rw [mul_tris i _ (xor_lt b c hb hc), mul_tris i _ hb, mul_tris i _ hc, tris_add i b c hb hc]

theorem add_mul (a b c : Nat) (ha : a < 256) (hb : b < 256) (hc : c < 256) : mul (a ^^^ b) c = mul a c ^^^ mul b c := by
  rw [mul_comm, mul_add c a b hc ha hb, mul_comm c a, mul_comm c b]

theorem mul_one (a : Nat) (ha : a < 256) : mul a 1 = a := by
  rw [mul_comm, show (1 : Nat) = pw 0 from rfl, mul_tris 0 a ha]; rfl
theorem one_mul (a : Nat) (ha : a < 256) : mul 1 a = a := by rw [mul_comm, mul_one a ha]
theorem mul_three (a : Nat) (ha : a < 256) : mul 3 a = tri a := by
  rw [show (3 : Nat) = pw 1 from by decide +kernel, mul_tris 1 a ha]; rfl
theorem mul_two (a : Nat) (ha : a < 256) : mul 2 a = dbl a := by
  rw [show (2 : Nat) = 3 ^^^ 1 from by decide, add_mul 3 1 a (by omega) (by omega) ha, mul_three a ha, one_mul a ha]
  unfold tri
  rw [Nat.xor_assoc, Nat.xor_self, Nat.xor_zero]

/-! Quotients. -/
theorem quo_lt (a b : Nat) : quo a b < 256 := by
  unfold quo
  split
  · omega
  · exact (pw_bd _).2
theorem quo_mul (a b : Nat) (ha : a < 256) (hb : b < 256) (b0 : b ≠ 0) : mul (quo a b) b = a := by
  obtain ⟨j, hj, rfl⟩ := is_pw b hb b0
  by_cases a0 : a = 0
  · subst a0; simp [quo, zero_mul]
  obtain ⟨i, hi, rfl⟩ := is_pw a ha a0
  unfold quo
  rw [if_neg a0, lg_pw i hi, lg_pw j hj, mul_pw, ← pw_mod, ← pw_mod i]
  congr 1; omega
/-- What is multiplied by an element other than 0 tells the element. -/
theorem mul_cancel (a c b : Nat) (ha : a < 256) (hc : c < 256) (hb : b < 256) (b0 : b ≠ 0) (h : mul a b = mul c b) : a = c := by
  have hq := quo_mul 1 b (by omega) hb b0
  have e1 : mul (mul a b) (quo 1 b) = a := by
    rw [mul_assoc a b _ ha hb (quo_lt _ _), mul_comm b, hq, mul_one a ha]
  have e2 : mul (mul c b) (quo 1 b) = c := by
    rw [mul_assoc c b _ hc hb (quo_lt _ _), mul_comm b, hq, mul_one c hc]
  rw [← e1, ← e2, h]
theorem quo_of (a b d : Nat) (ha : a < 256) (hb : b < 256) (b0 : b ≠ 0) (hd : d < 256) (h : mul d b = a) : quo a b = d :=
  mul_cancel _ _ b (quo_lt _ _) hd hb b0 ((quo_mul a b ha hb b0).trans h.symm)
theorem quo_ne (a b : Nat) (a0 : a ≠ 0) : quo a b ≠ 0 := by
  unfold quo
  rw [if_neg a0]
  exact (pw_bd _).1
theorem quo_inv (a b : Nat) (ha : a < 256) (hb : b < 256) (b0 : b ≠ 0) : quo a b = mul a (quo 1 b) := by
  refine quo_of a b _ ha hb b0 (mul_lt _ _) ?_
  rw [mul_assoc a _ b ha (quo_lt _ _) hb, quo_mul 1 b (by omega) hb b0, mul_one a ha]
theorem inv_inv (b : Nat) (hb : b < 256) (b0 : b ≠ 0) : quo 1 (quo 1 b) = b :=
  quo_of 1 _ b (by omega) (quo_lt _ _) (quo_ne 1 b (by omega)) hb (by rw [mul_comm]; exact quo_mul 1 b (by omega) hb b0)
theorem mul_quo (a b : Nat) (ha : a < 256) (hb : b < 256) (b0 : b ≠ 0) : quo (mul a b) b = a :=
  quo_of _ b a (mul_lt _ _) hb b0 ha rfl
theorem inv_inj (a b : Nat) (ha : a < 256) (hb : b < 256) (a0 : a ≠ 0) (b0 : b ≠ 0) (h : quo 1 a = quo 1 b) : a = b := by
  rw [← inv_inv a ha a0, ← inv_inv b hb b0, h]

/-! Powers. -/
theorem pow_lt (a n : Nat) : pow a n < 256 := by
  unfold pow
  split
  · omega
  · split
    · omega
    · exact (pw_bd _).2
theorem pow_pw (i n : Nat) (hi : i < 255) : pow (pw i) n = pw (i * n) := by
  unfold pow
  by_cases n0 : n = 0
  · subst n0; simp [pw]
  · rw [if_neg n0, if_neg (pw_bd i).1, lg_pw i hi, pw_mod, ← pw_mod (i * (n % 255)), ← pw_mod (i * n)]
    congr 1
    rw [Nat.mul_mod, Nat.mod_mod, ← Nat.mul_mod]
theorem pow_zero (a : Nat) : pow a 0 = 1 := by simp [pow]
theorem zero_pow (n : Nat) (h : n ≠ 0) : pow 0 n = 0 := by simp [pow, h]
theorem pow_succ (a n : Nat) (ha : a < 256) : pow a (n + 1) = mul (pow a n) a := by
  by_cases a0 : a = 0
  · subst a0; rw [zero_pow _ (by omega), mul_zero]
  · obtain ⟨i, hi, rfl⟩ := is_pw a ha a0
    rw [pow_pw i _ hi, pow_pw i _ hi, mul_pw]; rfl
theorem pow_add (a n m : Nat) (ha : a < 256) : pow a (n + m) = mul (pow a n) (pow a m) := by
  by_cases a0 : a = 0
  · subst a0
    by_cases n0 : n = 0
    · subst n0; rw [pow_zero, Nat.zero_add, one_mul _ (pow_lt _ _)]
    · rw [zero_pow n n0, zero_mul, zero_pow _ (by omega)]
  · obtain ⟨i, hi, rfl⟩ := is_pw a ha a0
    rw [pow_pw i _ hi, pow_pw i _ hi, pow_pw i _ hi, mul_pw, Nat.mul_add]
theorem pow_one (a : Nat) (ha : a < 256) : pow a 1 = a := by rw [pow_succ a 0 ha, pow_zero, one_mul a ha]
theorem pow_two (a : Nat) (ha : a < 256) : pow a 2 = mul a a := by rw [pow_succ a 1 ha, pow_one a ha]
theorem pow_255 (a : Nat) (ha : a < 256) (a0 : a ≠ 0) : pow a 255 = 1 := by
  obtain ⟨i, hi, rfl⟩ := is_pw a ha a0
  rw [pow_pw i _ hi, ← pw_mod, Nat.mul_mod_left]; rfl
theorem pow_256 (a : Nat) (ha : a < 256) : pow a 256 = a := by
  by_cases a0 : a = 0
  · subst a0; rfl
  · rw [pow_succ a 255 ha, pow_255 a ha a0, one_mul a ha]
theorem pow_mod (a n : Nat) (ha : a < 256) (a0 : a ≠ 0) : pow a (n % 255) = pow a n := by
  obtain ⟨i, hi, rfl⟩ := is_pw a ha a0
  rw [pow_pw i _ hi, pow_pw i _ hi, ← pw_mod (i * (n % 255)), ← pw_mod (i * n)]
  congr 1
  rw [Nat.mul_mod, Nat.mod_mod, ← Nat.mul_mod]
theorem pow_three (n : Nat) : pow 3 n = pw n := by
  rw [show (3 : Nat) = pw 1 from by decide +kernel, pow_pw 1 n (by omega), Nat.one_mul]
theorem pow_lg (a : Nat) (ha : a < 256) (a0 : a ≠ 0) : pow 3 (lg a) = a := by rw [pow_three, pw_lg a ha a0]
theorem pow_sq (a n : Nat) (ha : a < 256) : pow (mul a a) n = pow a (2 * n) := by
  by_cases a0 : a = 0
  · subst a0
    rw [mul_zero]
    by_cases n0 : n = 0
    · subst n0; rfl
    · rw [zero_pow n n0, zero_pow _ (by omega)]
  · obtain ⟨i, hi, rfl⟩ := is_pw a ha a0
    rw [mul_pw, ← pw_mod (i + i), pow_pw _ n (by omega), pow_pw i _ hi, ← pw_mod, ← pw_mod (i * (2 * n))]
    congr 1
    rw [Nat.mul_mod, Nat.mod_mod, ← Nat.mul_mod]
    congr 1
    rw [← Nat.mul_assoc]
    congr 1; omega

/-- One round of the power by squares. -/
theorem pow_step (o x m : Nat) (ho : o < 256) (hx : x < 256) : mul o (pow x m) = mul (if m % 2 = 1 then mul o x else o) (pow (mul x x) (m / 2)) := by
  rw [pow_sq x _ hx]
  split
  · rename_i h
    rw [mul_assoc o x _ ho hx (pow_lt _ _), mul_comm x, ← pow_succ x _ hx]
    congr 2; omega
  · congr 2; omega

/-! Squares. -/
theorem sq_add (a b : Nat) (ha : a < 256) (hb : b < 256) : pow (a ^^^ b) 2 = pow a 2 ^^^ pow b 2 := by
  have hx := xor_lt a b ha hb
  rw [pow_two _ hx, pow_two a ha, pow_two b hb, mul_add _ a b hx ha hb, add_mul a b a ha hb ha, add_mul a b b ha hb hb, mul_comm b a]
  rw [Nat.xor_assoc, ← Nat.xor_assoc (mul a b), Nat.xor_self, Nat.zero_xor]
theorem xor_zero_iff (a b : Nat) (h : a ^^^ b = 0) : a = b := by
  have e : (a ^^^ b) ^^^ b = a := by rw [Nat.xor_assoc, Nat.xor_self, Nat.xor_zero]
  rw [← e, h, Nat.zero_xor]
theorem sq_inj (a b : Nat) (ha : a < 256) (hb : b < 256) (h : pow a 2 = pow b 2) : a = b := by
  have hx := xor_lt a b ha hb
  have e : pow (a ^^^ b) 2 = 0 := by rw [sq_add a b ha hb, h, Nat.xor_self]
  rw [pow_two _ hx] at e
  refine xor_zero_iff a b (Decidable.byContradiction fun hn => mul_ne _ _ hn hn e)

/-! Logarithms. -/
theorem lg_mul (a b : Nat) (a0 : a ≠ 0) (b0 : b ≠ 0) : lg (mul a b) = (lg a + lg b) % 255 := by
  unfold mul
  rw [if_neg (by omega), lg_pw _ (by omega)]
theorem lg_pow3 (n : Nat) : lg (pow 3 n) = n % 255 := by
  rw [pow_three, ← pw_mod, lg_pw _ (by omega)]
theorem lg_inj (a b : Nat) (ha : a < 256) (hb : b < 256) (a0 : a ≠ 0) (b0 : b ≠ 0) (h : lg a = lg b) : a = b := by
  rw [← pw_lg a ha a0, ← pw_lg b hb b0, h]

/-- One round of the product bit by bit. -/
theorem mul_step (x y : Nat) (hx : x < 256) (hy : y < 256) : mul x y = (if y % 2 = 1 then x else 0) ^^^ mul (dbl x) (y / 2) := by
  have h2 : mul 2 (y / 2) = 2 * (y / 2) := by
    rw [mul_two _ (by omega)]
    unfold dbl
    rw [if_pos (by omega), Nat.xor_zero, Nat.mod_eq_of_lt (by omega)]
  have e : y = (y % 2) ^^^ (2 * (y / 2)) := by
    have hs : ∀ y, y < 256 → y = (y % 2) ^^^ (2 * (y / 2)) := by decide +kernel
    exact hs y hy
  have e2 : mul x (y % 2) = if y % 2 = 1 then x else 0 := by
    rcases Nat.mod_two_eq_zero_or_one y with h | h
    · rw [h, mul_zero]; rfl
    · rw [h, mul_one x hx]; rfl
  have e3 : mul x (2 * (y / 2)) = mul (dbl x) (y / 2) := by
    rw [← h2, ← mul_assoc x 2 _ hx (by omega) (by omega), mul_comm x 2, mul_two x hx]
  conv => lhs; rw [e]
  rw [mul_add x _ _ hx (by omega) (by omega), e2, e3]

end Gf

/-
  The plain mathematics of polynomials over the field with 256 elements, as lists of coefficients, the lowest first: values, sums, products, trimming, division's uniqueness, and that as many values as coefficients tell a polynomial. Conditions: none; nothing of the program is named here.
-/
namespace Pol
open Gf (mul)

/-! ### Sums without carry -/
def xs : Nat → (Nat → Nat) → Nat
  | 0, _ => 0
  | n + 1, f => xs n f ^^^ f n
theorem xs_congr {f g : Nat → Nat} : ∀ n, (∀ i, i < n → f i = g i) → xs n f = xs n g
  | 0, _ => rfl
  | n + 1, h => by simp only [xs]; rw [xs_congr n (fun i hi => h i (by omega)), h n (by omega)]
theorem xs_zero {f : Nat → Nat} : ∀ n, (∀ i, i < n → f i = 0) → xs n f = 0
  | 0, _ => rfl
  | n + 1, h => by simp only [xs]; rw [xs_zero n (fun i hi => h i (by omega)), h n (by omega)]; rfl
theorem xs_shift (f : Nat → Nat) : ∀ n, xs (n + 1) f = f 0 ^^^ xs n (fun i => f (i + 1))
  | 0 => by simp [xs]
  | n + 1 => by rw [xs, xs_shift f n]; simp only [xs]; rw [Nat.xor_assoc]
theorem xor_swap (a b c d : Nat) : (a ^^^ b) ^^^ (c ^^^ d) = (a ^^^ c) ^^^ (b ^^^ d) := by
  rw [Nat.xor_assoc, Nat.xor_assoc, ← Nat.xor_assoc b, ← Nat.xor_assoc c, Nat.xor_comm b c]
theorem xs_add (f g : Nat → Nat) : ∀ n, xs n (fun i => f i ^^^ g i) = xs n f ^^^ xs n g
  | 0 => (Nat.xor_self 0).symm
  | n + 1 => by simp only [xs]; rw [xs_add f g n, xor_swap]
theorem xs_lt {f : Nat → Nat} : ∀ n, (∀ i, i < n → f i < 256) → xs n f < 256
  | 0, _ => by simp [xs]
  | n + 1, h => Gf.xor_lt _ _ (xs_lt n (fun i hi => h i (by omega))) (h n (by omega))
/-- One summand changes. -/
theorem xs_update (f : Nat → Nat) (d c : Nat) : ∀ n, d < n → xs n (fun i => if i = d then f i ^^^ c else f i) = xs n f ^^^ c
  | 0, h => by omega
  | n + 1, h => by
    simp only [xs]
    by_cases e : d = n
    · subst e
      rw [if_pos rfl, xs_congr (g := f) d (fun i hi => if_neg (by omega)), Nat.xor_assoc]
    · rw [if_neg (fun h => e h.symm), xs_update f d c n (by omega), Nat.xor_assoc, Nat.xor_comm c, ← Nat.xor_assoc]
theorem mul_xs (x : Nat) (f : Nat → Nat) (hx : x < 256) : ∀ n, (∀ i, i < n → f i < 256) → mul x (xs n f) = xs n (fun i => mul x (f i))
  | 0, _ => Gf.mul_zero x
  | n + 1, h => by
    simp only [xs]
    rw [Gf.mul_add x _ _ hx (xs_lt n (fun i hi => h i (by omega))) (h n (by omega)), mul_xs x f hx n (fun i hi => h i (by omega))]

/-! ### Coefficients -/
def co (l : List Nat) (i : Nat) : Nat := l[i]?.getD 0
def Sm (l : List Nat) : Prop := ∀ i, co l i < 256
theorem co_nil (i : Nat) : co [] i = 0 := by simp [co]
theorem co_zero (x : Nat) (l : List Nat) : co (x :: l) 0 = x := by simp [co]
theorem co_succ (x : Nat) (l : List Nat) (i : Nat) : co (x :: l) (i + 1) = co l i := by simp [co]
theorem co_out (l : List Nat) (i : Nat) (h : l.length ≤ i) : co l i = 0 := by simp [co, List.getElem?_eq_none h]
theorem co_lt_of {l : List Nat} (h : ∀ x ∈ l, x < 256) : Sm l := fun i => by
  unfold co
  cases hq : l[i]? with
  | none => simp
  | some v => simpa using h v (List.mem_of_getElem? hq)
theorem Sm.mem {l : List Nat} (h : Sm l) : ∀ x ∈ l, x < 256 := fun x hx => by
  obtain ⟨i, hi⟩ := List.getElem?_of_mem hx
  have := h i
  simpa [co, hi] using this
theorem Sm.nil : Sm [] := fun i => by rw [co_nil]; omega
theorem Sm.tail {x : Nat} {l : List Nat} (h : Sm (x :: l)) : Sm l := fun i => by have := h (i + 1); rwa [co_succ] at this
theorem Sm.head {x : Nat} {l : List Nat} (h : Sm (x :: l)) : x < 256 := by have := h 0; rwa [co_zero] at this
theorem Sm.cons {x : Nat} {l : List Nat} (hx : x < 256) (h : Sm l) : Sm (x :: l) := fun i => by
  cases i with
  | zero => rw [co_zero]; exact hx
  | succ i => rw [co_succ]; exact h i

/-! ### Trimming -/
def trim : List Nat → List Nat
  | [] => []
  | x :: l => match trim l with
    | [] => if x = 0 then [] else [x]
    | y :: t => x :: y :: t
theorem trim_cons (x : Nat) (l : List Nat) : trim (x :: l) = if trim l = [] ∧ x = 0 then [] else x :: trim l := by
  rw [trim]
  cases h : trim l with
  | nil => by_cases e : x = 0 <;> simp [e]
  | cons y t => simp
theorem co_trim : ∀ (l : List Nat) (i : Nat), co (trim l) i = co l i
  | [], _ => rfl
  | x :: l, i => by
    rw [trim_cons]
    split
    · rename_i h
      cases i with
      | zero => rw [co_nil, co_zero, h.2]
      | succ i => rw [co_nil, co_succ, ← co_trim l i, h.1, co_nil]
    · cases i with
      | zero => rw [co_zero, co_zero]
      | succ i => rw [co_succ, co_succ, co_trim l i]
theorem trim_ext : ∀ (a b : List Nat), (∀ i, co a i = co b i) → trim a = trim b
  | [], [], _ => rfl
  | [], y :: b, h => by
    have h0 := h 0
    rw [co_nil, co_zero] at h0
    have ih := trim_ext [] b (fun i => by have := h (i + 1); rwa [co_nil, co_succ] at this)
    rw [trim_cons, ← ih, if_pos ⟨rfl, h0.symm⟩]; rfl
  | x :: a, [], h => by
    have h0 := h 0
    rw [co_nil, co_zero] at h0
    have ih := trim_ext a [] (fun i => by have := h (i + 1); rw [co_succ] at this; rw [this, co_nil, co_nil])
    rw [trim_cons, ih, if_pos ⟨rfl, h0⟩]; rfl
  | x :: a, y :: b, h => by
    have h0 := h 0
    rw [co_zero, co_zero] at h0
    have ih := trim_ext a b (fun i => by have := h (i + 1); rwa [co_succ, co_succ] at this)
    rw [trim_cons, trim_cons, ih, h0]
theorem trim_trim (l : List Nat) : trim (trim l) = trim l := trim_ext _ _ (co_trim l)
theorem trim_len (l : List Nat) : (trim l).length ≤ l.length := by
  induction l with
  | nil => simp [trim]
  | cons x l ih =>
    rw [trim_cons]
    split
    · simp
    · simp; exact ih
theorem trim_le : ∀ (l : List Nat) (n : Nat), (∀ i, n ≤ i → co l i = 0) → (trim l).length ≤ n
  | [], n, _ => by simp [trim]
  | x :: l, 0, h => by
    have : trim (x :: l) = trim [] := trim_ext _ _ (fun i => by rw [h i (by omega), co_nil])
    rw [this]; simp [trim]
  | x :: l, n + 1, h => by
    have := trim_le l n (fun i hi => by have := h (i + 1) (by omega); rwa [co_succ] at this)
    rw [trim_cons]
    split
    · simp
    · simp; exact this
/-- The last coefficient of what is trimmed is not 0. -/
theorem trim_last : ∀ (l : List Nat), trim l ≠ [] → co l ((trim l).length - 1) ≠ 0
  | [], h => absurd rfl h
  | x :: l, h => by
    rw [trim_cons] at h ⊢
    by_cases e : trim l = [] ∧ x = 0
    · rw [if_pos e] at h; exact absurd rfl h
    · rw [if_neg e]
      by_cases t : trim l = []
      · rw [t]; simp only [List.length_cons, List.length_nil]
        show co (x :: l) 0 ≠ 0
        rw [co_zero]; exact fun h => e ⟨t, h⟩
      · have := trim_last l t
        have hl : 0 < (trim l).length := List.length_pos_iff.2 t
        rw [List.length_cons, show (trim l).length + 1 - 1 = ((trim l).length - 1) + 1 from by omega, co_succ]
        exact this
theorem trim_of (l : List Nat) (n : Nat) (hn : n ≤ l.length) (h : ∀ i, n ≤ i → co l i = 0) (h1 : n = 0 ∨ co l (n - 1) ≠ 0) : trim l = l.take n := by
  have hlen : (trim l).length = n := by
    have h2 := trim_le l n h
    rcases h1 with rfl | h1
    · omega
    · rcases Nat.lt_or_ge (trim l).length n with hlt | hge
      · have := co_trim l (n - 1)
        rw [co_out (trim l) (n - 1) (by omega)] at this
        exact absurd this.symm h1
      · omega
  apply List.ext_getElem?
  intro i
  by_cases hi : i < n
  · have e := co_trim l i
    unfold co at e
    rw [List.getElem?_take, if_pos hi, List.getElem?_eq_getElem (by omega), List.getElem?_eq_getElem (by omega)]
    rw [List.getElem?_eq_getElem (by omega), List.getElem?_eq_getElem (by omega)] at e
    simpa using e
  · rw [List.getElem?_eq_none (by omega), List.getElem?_eq_none (by simp; omega)]
theorem trim_fix (l : List Nat) (h : l = [] ∨ co l (l.length - 1) ≠ 0) : trim l = l := by
  rw [trim_of l l.length (Nat.le_refl _) (fun i hi => co_out l i hi) (by rcases h with rfl | h; exact .inl rfl; exact .inr h), List.take_length]
theorem Sm.trim {l : List Nat} (h : Sm l) : Sm (trim l) := fun i => by rw [co_trim]; exact h i

/-! ### Values -/
def ev : List Nat → Nat → Nat
  | [], _ => 0
  | a :: l, x => a ^^^ mul x (ev l x)
theorem ev_lt : ∀ (l : List Nat) (x : Nat), Sm l → ev l x < 256
  | [], _, _ => by simp [ev]
  | a :: l, x, h => Gf.xor_lt _ _ h.head (Gf.mul_lt _ _)
theorem ev_all_zero : ∀ (l : List Nat) (x : Nat), (∀ i, co l i = 0) → ev l x = 0
  | [], _, _ => rfl
  | a :: l, x, h => by
    have h0 := h 0
    rw [co_zero] at h0
    rw [ev, h0, ev_all_zero l x (fun i => by have := h (i + 1); rwa [co_succ] at this), Gf.mul_zero]; rfl
theorem ev_congr : ∀ (a b : List Nat) (x : Nat), (∀ i, co a i = co b i) → ev a x = ev b x
  | [], b, x, h => by rw [ev_all_zero b x (fun i => by rw [← h i, co_nil])]; rfl
  | x' :: a, [], x, h => by rw [ev_all_zero (x' :: a) x (fun i => by rw [h i, co_nil])]; rfl
  | x' :: a, y :: b, x, h => by
    have h0 := h 0
    rw [co_zero, co_zero] at h0
    rw [ev, ev, h0, ev_congr a b x (fun i => by have := h (i + 1); rwa [co_succ, co_succ] at this)]
theorem ev_trim (l : List Nat) (x : Nat) : ev (trim l) x = ev l x := ev_congr _ _ _ (co_trim l)
/-- The value, power by power. -/
theorem ev_pow : ∀ (l : List Nat) (x : Nat), Sm l → x < 256 → ev l x = xs l.length (fun i => mul (co l i) (Gf.pow x i))
  | [], _, _, _ => rfl
  | a :: l, x, h, hx => by
    have hl := h.tail
    rw [ev, ev_pow l x hl hx, mul_xs x _ hx _ (fun i _ => Gf.mul_lt _ _), List.length_cons, xs_shift]
    rw [co_zero, Gf.pow_zero, Gf.mul_one a h.head]
    congr 1
    apply xs_congr
    intro i _
    rw [co_succ, Gf.pow_succ x i hx, Gf.mul_comm (Gf.pow x i) x, ← Gf.mul_assoc _ _ _ (hl i) hx (Gf.pow_lt _ _), ← Gf.mul_assoc _ _ _ hx (hl i) (Gf.pow_lt _ _), Gf.mul_comm x]

/-! ### Sums -/
def addP : List Nat → List Nat → List Nat
  | [], b => b
  | a, [] => a
  | x :: a, y :: b => (x ^^^ y) :: addP a b
theorem addP_nil (a : List Nat) : addP a [] = a := by cases a <;> rfl
theorem co_addP : ∀ (a b : List Nat) (i : Nat), co (addP a b) i = co a i ^^^ co b i
  | [], b, i => by rw [addP, co_nil, Nat.zero_xor]
  | x :: a, [], i => by rw [addP_nil, co_nil, Nat.xor_zero]
  | x :: a, y :: b, 0 => by rw [addP, co_zero, co_zero, co_zero]
  | x :: a, y :: b, i + 1 => by rw [addP, co_succ, co_succ, co_succ, co_addP a b i]
theorem addP_len : ∀ (a b : List Nat), (addP a b).length = max a.length b.length
  | [], b => by simp [addP]
  | x :: a, [] => by simp [addP]
  | x :: a, y :: b => by simp only [addP, List.length_cons, addP_len a b]; omega
theorem Sm.add {a b : List Nat} (ha : Sm a) (hb : Sm b) : Sm (addP a b) := fun i => by rw [co_addP]; exact Gf.xor_lt _ _ (ha i) (hb i)
theorem ev_addP : ∀ (a b : List Nat) (x : Nat), Sm a → Sm b → x < 256 → ev (addP a b) x = ev a x ^^^ ev b x
  | [], b, x, _, _, _ => by rw [addP, ev, Nat.zero_xor]
  | y :: a, [], x, _, _, _ => by rw [addP_nil, ev, ev, Nat.xor_zero]
  | y :: a, z :: b, x, ha, hb, hx => by
    rw [addP, ev, ev, ev, ev_addP a b x ha.tail hb.tail hx, Gf.mul_add x _ _ hx (ev_lt a x ha.tail) (ev_lt b x hb.tail), xor_swap]

/-! ### Products -/
def scale (c : Nat) (l : List Nat) : List Nat := l.map (mul c)
theorem co_scale (c : Nat) (l : List Nat) (i : Nat) : co (scale c l) i = mul c (co l i) := by
  unfold co scale
  rw [List.getElem?_map]
  cases l[i]? with
  | none => simp [Gf.mul_zero]
  | some v => simp
theorem Sm.scale (c : Nat) (l : List Nat) : Sm (scale c l) := fun i => by rw [co_scale]; exact Gf.mul_lt _ _
theorem ev_scale (c : Nat) (hc : c < 256) : ∀ (l : List Nat) (x : Nat), Sm l → x < 256 → ev (scale c l) x = mul c (ev l x)
  | [], x, _, _ => (Gf.mul_zero c).symm
  | a :: l, x, h, hx => by
    show mul c a ^^^ mul x (ev (scale c l) x) = mul c (a ^^^ mul x (ev l x))
    rw [ev_scale c hc l x h.tail hx, Gf.mul_add c _ _ hc h.head (Gf.mul_lt _ _), ← Gf.mul_assoc x c _ hx hc (ev_lt l x h.tail), ← Gf.mul_assoc c x _ hc hx (ev_lt l x h.tail), Gf.mul_comm x c]
def mulP : List Nat → List Nat → List Nat
  | [], _ => []
  | x :: a, b => addP (scale x b) (0 :: mulP a b)
theorem Sm.mul (a b : List Nat) : Sm (mulP a b) := by
  induction a with
  | nil => exact Sm.nil
  | cons x a ih => exact (Sm.scale x b).add (Sm.cons (by omega) ih)
theorem ev_mulP : ∀ (a b : List Nat) (x : Nat), Sm a → Sm b → x < 256 → ev (mulP a b) x = Gf.mul (ev a x) (ev b x)
  | [], b, x, _, _, _ => (Gf.zero_mul _).symm
  | y :: a, b, x, ha, hb, hx => by
    have h0 : Sm (0 :: mulP a b) := Sm.cons (by omega) (Sm.mul a b)
    rw [mulP, ev_addP _ _ x (Sm.scale y b) h0 hx, ev_scale y ha.head b x hb hx, ev, ev, Nat.zero_xor, ev_mulP a b x ha.tail hb hx]
    rw [Gf.add_mul _ _ _ ha.head (Gf.mul_lt _ _) (ev_lt b x hb), Gf.mul_assoc x _ _ hx (ev_lt a x ha.tail) (ev_lt b x hb)]
/-- A product's coefficient, summand by summand. -/
def pc (n : Nat) (A B : Nat → Nat) (j : Nat) : Nat := xs n (fun i => if i ≤ j then mul (A i) (B (j - i)) else 0)
theorem co_mulP : ∀ (a b : List Nat) (j : Nat), co (mulP a b) j = pc a.length (co a) (co b) j
  | [], b, j => by rw [mulP, co_nil]; rfl
  | x :: a, b, 0 => by
    rw [mulP, co_addP, co_scale, co_zero, Nat.xor_zero]
    unfold pc
    rw [List.length_cons, xs_shift, if_pos (Nat.le_refl _), co_zero, xs_zero a.length (fun i _ => if_neg (by omega)), Nat.xor_zero]
  | x :: a, b, j + 1 => by
    rw [mulP, co_addP, co_scale, co_succ, co_mulP a b j]
    unfold pc
    rw [List.length_cons, xs_shift, if_pos (by omega), co_zero]
    congr 1
    apply xs_congr
    intro i _
    simp only [co_succ, Nat.add_sub_add_right, Nat.add_le_add_iff_right]
theorem pc_more (A B : Nat → Nat) (n m j : Nat) (hA : ∀ i, n ≤ i → A i = 0) (h : n ≤ m) : pc m A B j = pc n A B j := by
  obtain ⟨d, rfl⟩ : ∃ d, m = n + d := ⟨m - n, by omega⟩
  induction d with
  | zero => rfl
  | succ d ih =>
    have := ih (by omega)
    unfold pc at this ⊢
    rw [show n + (d + 1) = (n + d) + 1 from rfl, xs, this, hA (n + d) (by omega), Gf.zero_mul]
    simp
/-- A coefficient more, at one place. -/
theorem pc_update (n : Nat) (A B : Nat → Nat) (d c j : Nat) (hd : d < n) (hA : ∀ i, A i < 256) (hB : ∀ i, B i < 256) (hc : c < 256) :
    pc n (fun i => if i = d then A i ^^^ c else A i) B j = pc n A B j ^^^ (if d ≤ j then mul c (B (j - d)) else 0) := by
  have e := xs_update (fun i => if i ≤ j then mul (A i) (B (j - i)) else 0) d (if d ≤ j then mul c (B (j - d)) else 0) n hd
  unfold pc
  rw [← e]
  apply xs_congr
  intro i _
  by_cases hi : i = d
  · subst hi
    simp only [if_true]
    by_cases hj : i ≤ j
    · rw [if_pos hj, if_pos hj, if_pos hj, Gf.add_mul _ _ _ (hA i) hc (hB _)]
    · rw [if_neg hj, if_neg hj, if_neg hj]; rfl
  · simp only [if_neg hi]
theorem mulP_len (a b : List Nat) (j : Nat) (h : a.length + b.length ≤ j + 1) (hb : b ≠ []) : co (mulP a b) j = 0 := by
  have hl : 0 < b.length := List.length_pos_iff.2 hb
  rw [co_mulP]
  apply xs_zero
  intro i hi
  by_cases hj : i ≤ j
  · rw [if_pos hj, co_out b _ (by omega), Gf.mul_zero]
  · rw [if_neg hj]
theorem mulP_nil (a : List Nat) (j : Nat) : co (mulP a []) j = 0 := by
  rw [co_mulP]
  apply xs_zero
  intro i _
  rw [co_nil, Gf.mul_zero]; simp

/-! ### As many values as coefficients tell a polynomial -/
def sd (c : Nat) : List Nat → List Nat
  | [] => []
  | _ :: l => ev l c :: sd c l
theorem sd_sm (c : Nat) : ∀ (l : List Nat), Sm l → Sm (sd c l)
  | [], _ => Sm.nil
  | _ :: l, h => Sm.cons (ev_lt l c h.tail) (sd_sm c l h.tail)
theorem sd_len (c : Nat) : ∀ (l : List Nat), (sd c l).length = l.length
  | [] => rfl
  | _ :: l => by simp [sd, sd_len c l]
theorem sd_top (c : Nat) : ∀ (l : List Nat) (i : Nat), l.length ≤ i + 1 → co (sd c l) i = 0
  | [], i, _ => co_nil i
  | [_], 0, _ => by simp [sd, co, ev]
  | a :: b :: l, 0, h => by simp at h
  | _ :: l, i + 1, h => by
    rw [sd, co_succ]
    exact sd_top c l i (by simpa using h)
theorem ev_sd (c : Nat) (hc : c < 256) : ∀ (l : List Nat) (y : Nat), Sm l → y < 256 → ev l y = mul (y ^^^ c) (ev (sd c l) y) ^^^ ev l c
  | [], y, _, _ => by simp [ev, sd, Gf.mul_zero]
  | a :: l, y, h, hy => by
    have hl := h.tail
    have hv := ev_lt l c hl
    have hs := ev_lt (sd c l) y (sd_sm c l hl)
    have hx := Gf.xor_lt y c hy hc
    have ih := ev_sd c hc l y hl hy
    simp only [ev, sd]
    generalize ev l c = v at *
    generalize ev (sd c l) y = s at *
    rw [ih, Gf.mul_add y _ _ hy (Gf.mul_lt _ _) hv, Gf.mul_add _ _ _ hx hv (Gf.mul_lt _ _), Gf.add_mul y c v hy hc hv]
    rw [← Gf.mul_assoc y _ _ hy hx hs, ← Gf.mul_assoc _ y _ hx hy hs, Gf.mul_comm y (y ^^^ c)]
    generalize mul (mul (y ^^^ c) y) s = p
    generalize mul y v = q
    generalize mul c v = r
    apply Nat.eq_of_testBit_eq
    intro i
    simp only [Nat.testBit_xor]
    cases a.testBit i <;> cases p.testBit i <;> cases q.testBit i <;> cases r.testBit i <;> rfl
/-- The coefficients, out of those of the quotient by x + c. -/
theorem co_sd (c : Nat) : ∀ (l : List Nat), Sm l → ev l c = 0 → ∀ i, co l i = (if i = 0 then 0 else co (sd c l) (i - 1)) ^^^ mul c (co (sd c l) i)
  | [], _, _, i => by
    rw [sd, co_nil, co_nil, Gf.mul_zero]; split <;> simp
  | a :: l, h, h0, 0 => by
    have : a ^^^ mul c (ev l c) = 0 := h0
    rw [if_pos rfl, co_zero, sd, co_zero, Nat.zero_xor]
    exact Gf.xor_zero_iff _ _ this
  | a :: l, h, h0, i + 1 => by
    rw [if_neg (by omega), co_succ, sd, Nat.add_sub_cancel, co_succ]
    have key : ∀ (l : List Nat) (i : Nat), Sm l → co l i = (if i = 0 then ev l c else co (sd c l) (i - 1)) ^^^ mul c (co (sd c l) i) := by
      intro l
      induction l with
      | nil => intro i _; rw [sd, co_nil, co_nil, Gf.mul_zero]; cases i <;> simp [ev]
      | cons b l ih =>
        intro i hs
        cases i with
        | zero =>
          rw [if_pos rfl, co_zero, sd, co_zero]
          show b = (b ^^^ mul c (ev l c)) ^^^ mul c (ev l c)
          rw [Nat.xor_assoc, Nat.xor_self, Nat.xor_zero]
        | succ i =>
          rw [if_neg (by omega), co_succ, sd, Nat.add_sub_cancel, co_succ, ih i hs.tail]
          cases i with
          | zero => rw [if_pos rfl, co_zero]
          | succ i => rw [if_neg (by omega), Nat.add_sub_cancel, co_succ]
    rw [key l i h.tail]
    cases i with
    | zero => rw [if_pos rfl, co_zero]
    | succ i => rw [if_neg (by omega), Nat.add_sub_cancel, co_succ]
theorem roots : ∀ (n : Nat) (l ps : List Nat), ps.length = n → ps.Nodup → (∀ p ∈ ps, p < 256) → Sm l → (∀ i, n ≤ i → co l i = 0) → (∀ p ∈ ps, ev l p = 0) → ∀ i, co l i = 0
  | 0, l, ps, _, _, _, _, hz, _, i => hz i (by omega)
  | n + 1, l, [], hn, _, _, _, _, _, _ => by simp at hn
  | n + 1, l0, c :: ps, hn, hd, hp, hs, hz, hr, i => by
    -- the list, cut to n + 1 coefficients
    have hc : c < 256 := hp c (by simp)
    let l := l0.take (n + 1)
    have hco : ∀ i, co l i = co l0 i := fun i => by
      show co (l0.take (n + 1)) i = co l0 i
      unfold co
      rw [List.getElem?_take]
      by_cases h : i < n + 1
      · rw [if_pos h]
      · rw [if_neg h]
        have := hz i (by omega)
        unfold co at this
        simpa using this.symm
    have hlen : l.length ≤ n + 1 := by simp [l]; omega
    have hsl : Sm l := fun i => by rw [hco]; exact hs i
    have hev : ∀ x, ev l x = ev l0 x := fun x => ev_congr _ _ _ hco
    have hq := sd_sm c l hsl
    have h0 : ev l c = 0 := by rw [hev]; exact hr c (by simp)
    have ih := roots n (sd c l) ps (by simpa using hn) (List.nodup_cons.1 hd).2 (fun p h => hp p (by simp [h])) hq
      (fun i hi => sd_top c l i (by omega)) (fun p h => by
        have hpl : p < 256 := hp p (by simp [h])
        have e := ev_sd c hc l p hsl hpl
        rw [h0, Nat.xor_zero, hev, hr p (by simp [h])] at e
        have hne : p ^^^ c ≠ 0 := fun k => (List.nodup_cons.1 hd).1 (by rw [← Gf.xor_zero_iff p c k]; exact h)
        exact Decidable.byContradiction fun hk => Gf.mul_ne _ _ hne hk e.symm)
    rw [← hco, co_sd c l hsl h0 i, ih i, Gf.mul_zero, Nat.xor_zero]
    split
    · rfl
    · exact ih _
/-- Two polynomials of fewer coefficients than places at which they meet are one. -/
theorem meet (n : Nat) (a b ps : List Nat) (hn : ps.length = n) (hd : ps.Nodup) (hp : ∀ p ∈ ps, p < 256) (ha : Sm a) (hb : Sm b)
    (hla : ∀ i, n ≤ i → co a i = 0) (hlb : ∀ i, n ≤ i → co b i = 0) (h : ∀ p ∈ ps, ev a p = ev b p) : ∀ i, co a i = co b i := fun i => by
  have := roots n (addP a b) ps hn hd hp (ha.add hb) (fun i hi => by rw [co_addP, hla i hi, hlb i hi]; rfl)
    (fun p hpm => by rw [ev_addP a b p ha hb (hp p hpm), h p hpm, Nat.xor_self]) i
  rw [co_addP] at this
  exact Gf.xor_zero_iff _ _ this

/-! ### Products are linear, and degrees add up -/
theorem pc_add_left (n : Nat) (A C B : Nat → Nat) (j : Nat) (hA : ∀ i, A i < 256) (hC : ∀ i, C i < 256) (hB : ∀ i, B i < 256) :
    pc n (fun i => A i ^^^ C i) B j = pc n A B j ^^^ pc n C B j := by
  unfold pc
  rw [← xs_add]
  apply xs_congr
  intro i _
  by_cases h : i ≤ j
  · simp only [if_pos h]; exact Gf.add_mul _ _ _ (hA i) (hC i) (hB _)
  · simp only [if_neg h]; rfl
theorem pc_add_right (n : Nat) (A B C : Nat → Nat) (j : Nat) (hA : ∀ i, A i < 256) (hB : ∀ i, B i < 256) (hC : ∀ i, C i < 256) :
    pc n A (fun i => B i ^^^ C i) j = pc n A B j ^^^ pc n A C j := by
  unfold pc
  rw [← xs_add]
  apply xs_congr
  intro i _
  by_cases h : i ≤ j
  · simp only [if_pos h]; exact Gf.mul_add _ _ _ (hA i) (hB _) (hC _)
  · simp only [if_neg h]; rfl
theorem co_mulP_of (a b : List Nat) (n j : Nat) (h : a.length ≤ n) : co (mulP a b) j = pc n (co a) (co b) j := by
  rw [co_mulP, pc_more (co a) (co b) a.length n j (fun i hi => co_out a i hi) h]
theorem pc_congr {A A' B B' : Nat → Nat} (n j : Nat) (hA : ∀ i, A i = A' i) (hB : ∀ i, B i = B' i) : pc n A B j = pc n A' B' j := by
  unfold pc
  apply xs_congr
  intro i _
  rw [hA, hB]
theorem mulP_congr (a b a' b' : List Nat) (ha : ∀ i, co a i = co a' i) (hb : ∀ i, co b i = co b' i) (j : Nat) : co (mulP a b) j = co (mulP a' b') j := by
  rw [co_mulP_of a b (max a.length a'.length) j (by omega), co_mulP_of a' b' (max a.length a'.length) j (by omega)]
  exact pc_congr _ _ ha hb
theorem mulP_add_left (a c b : List Nat) (ha : Sm a) (hc : Sm c) (hb : Sm b) (j : Nat) : co (mulP (addP a c) b) j = co (mulP a b) j ^^^ co (mulP c b) j := by
  rw [co_mulP_of (addP a c) b (max a.length c.length) j (by rw [addP_len]; omega), co_mulP_of a b (max a.length c.length) j (by omega), co_mulP_of c b (max a.length c.length) j (by omega)]
  rw [← pc_add_left _ _ _ _ _ ha hc hb]
  exact pc_congr _ _ (co_addP a c) (fun _ => rfl)
theorem mulP_add_right (a b c : List Nat) (ha : Sm a) (hb : Sm b) (hc : Sm c) (j : Nat) : co (mulP a (addP b c)) j = co (mulP a b) j ^^^ co (mulP a c) j := by
  rw [co_mulP, co_mulP, co_mulP, ← pc_add_right _ _ _ _ _ ha hb hc]
  exact pc_congr _ _ (fun _ => rfl) (co_addP b c)
theorem xs_single (f : Nat → Nat) (d : Nat) : ∀ n, d < n → (∀ i, i < n → i ≠ d → f i = 0) → xs n f = f d
  | 0, h, _ => by omega
  | n + 1, h, hz => by
    rw [xs]
    by_cases e : d = n
    · subst e; rw [xs_zero d (fun i hi => hz i (by omega) (by omega)), Nat.zero_xor]
    · rw [xs_single f d n (by omega) (fun i hi => hz i (by omega)), hz n (by omega) (fun h => e h.symm), Nat.xor_zero]
theorem mulP_top (a b : List Nat) (da db : Nat) (ha : ∀ i, da < i → co a i = 0) (hb : ∀ i, db < i → co b i = 0) : co (mulP a b) (da + db) = mul (co a da) (co b db) := by
  rw [co_mulP_of a b (max a.length (da + 1)) _ (by omega)]
  unfold pc
  rw [xs_single _ da _ (by omega), if_pos (by omega), Nat.add_sub_cancel_left]
  intro i _ hne
  rcases Nat.lt_or_gt_of_ne hne with h | h
  · rw [if_pos (by omega), hb _ (by omega), Gf.mul_zero]
  · rw [ha i h, Gf.zero_mul]; simp
theorem mulP_above (a b : List Nat) (da db : Nat) (ha : ∀ i, da < i → co a i = 0) (hb : ∀ i, db < i → co b i = 0) (j : Nat) (hj : da + db < j) : co (mulP a b) j = 0 := by
  rw [co_mulP]
  apply xs_zero
  intro i _
  by_cases h : da < i
  · rw [ha i h, Gf.zero_mul]; simp
  · by_cases k : i ≤ j
    · rw [if_pos k, hb _ (by omega), Gf.mul_zero]
    · rw [if_neg k]
/-- The greatest place of a coefficient that is not 0. -/
theorem top_of (l : List Nat) (h : trim l ≠ []) : co l ((trim l).length - 1) ≠ 0 ∧ ∀ i, (trim l).length - 1 < i → co l i = 0 :=
  ⟨trim_last l h, fun i hi => by rw [← co_trim, co_out _ i (by omega)]⟩
theorem trim_nil_iff (l : List Nat) : trim l = [] ↔ ∀ i, co l i = 0 :=
  ⟨fun h i => by rw [← co_trim, h, co_nil], fun h => trim_ext l [] (fun i => by rw [h i, co_nil])⟩
theorem trim_len_top (l : List Nat) (d : Nat) (h : co l d ≠ 0) (hz : ∀ i, d < i → co l i = 0) : (trim l).length = d + 1 := by
  have h1 := trim_le l (d + 1) (fun i hi => hz i (by omega))
  rcases Nat.lt_or_ge (trim l).length (d + 1) with hlt | hge
  · exact absurd (by rw [← co_trim, co_out _ d (by omega)]) h
  · omega
/-- Quotient and rest are told by what they make. -/
theorem div_one (q a b r : List Nat) (db : Nat) (hq : Sm q) (ha : Sm a) (hb : Sm b) (hb0 : co b db ≠ 0) (hbz : ∀ i, db < i → co b i = 0) (hr : ∀ i, db ≤ i → co r i = 0)
    (h : ∀ j, co (mulP q b) j ^^^ co r j = co (mulP a b) j) : (∀ i, co q i = co a i) ∧ ∀ i, co r i = 0 := by
  have hd : ∀ j, co (mulP (addP q a) b) j = co r j := fun j => by
    rw [mulP_add_left q a b hq ha hb, ← h j, ← Nat.xor_assoc, Nat.xor_self, Nat.zero_xor]
  have hz : ∀ i, co (addP q a) i = 0 := by
    refine (trim_nil_iff _).1 (Decidable.byContradiction fun hne => ?_)
    obtain ⟨t1, t2⟩ := top_of _ hne
    have := mulP_top (addP q a) b _ db t2 hbz
    rw [hd, hr _ (by omega)] at this
    exact Gf.mul_ne _ _ t1 hb0 this.symm
  have hqa : ∀ i, co q i = co a i := fun i => Gf.xor_zero_iff _ _ (by rw [← co_addP]; exact hz i)
  refine ⟨hqa, fun i => ?_⟩
  have e := h i
  rw [mulP_congr q b a b hqa (fun _ => rfl)] at e
  have := Gf.xor_zero_iff (co (mulP a b) i ^^^ co r i) (co (mulP a b) i) (by rw [e, Nat.xor_self])
  have k : co r i = co (mulP a b) i ^^^ (co (mulP a b) i ^^^ co r i) := by rw [← Nat.xor_assoc, Nat.xor_self, Nat.zero_xor]
  rw [k, this, Nat.xor_self]
theorem div_two (q q' b r r' : List Nat) (db : Nat) (hq : Sm q) (hq' : Sm q') (hb : Sm b) (hb0 : co b db ≠ 0) (hbz : ∀ i, db < i → co b i = 0) (hr : ∀ i, db ≤ i → co r i = 0) (hr' : ∀ i, db ≤ i → co r' i = 0)
    (h : ∀ j, co (mulP q b) j ^^^ co r j = co (mulP q' b) j ^^^ co r' j) : (∀ i, co q i = co q' i) ∧ ∀ i, co r i = co r' i := by
  have := div_one q q' b (addP r r') db hq hq' hb hb0 hbz (fun i hi => by rw [co_addP, hr i hi, hr' i hi]; rfl) (fun j => by
    rw [co_addP, ← Nat.xor_assoc, h j, Nat.xor_assoc, Nat.xor_self, Nat.xor_zero])
  exact ⟨this.1, fun i => Gf.xor_zero_iff _ _ (by rw [← co_addP]; exact this.2 i)⟩
end Pol

/-
  Small laws on worlds and on operations over whole arrays, of no program in particular: what is new, what stays, a load and a store of a whole array, a struct that is built of two arrays. Conditions: none.
-/
namespace Go.Proofs.Ytnfgokbopndmgaa
open Go.RowKit

theorem ret_int {k : IntKind} {a b : Int} (h : a = b) : Ending.returned (.int k a) = .returned (.int k b) := by rw [h]

theorem ret_two {k k' : IntKind} {a b c : Int} (h : a = b) : Ending.returned (.tuple #[.int k a, .int k' c]) = .returned (.tuple #[.int k b, .int k' c]) := by rw [h]

/-- A call that hands back v and changes nothing but how often the tape was asked. -/
def Hands (v : Value) (w : World) (e : Ending) (w' : World) : Prop := e = .returned v ∧ ∃ n, w' = w.drewN n

theorem nat_u8 {n : Int} (h : (Lit.int .u8 n).wf = true) : ∃ x : Nat, n = (x : Int) ∧ x < 256 := by
  have := bounds_u8 h
  exact ⟨n.toNat, by omega, by omega⟩
theorem nat_u32 {n : Int} (h : (Lit.int .u32 n).wf = true) : ∃ x : Nat, n = (x : Int) ∧ x < 4294967296 := by
  have := bounds_u32 h
  exact ⟨n.toNat, by omega, by omega⟩
theorem nat_u64 {n : Int} (h : (Lit.int .u64 n).wf = true) : ∃ x : Nat, n = (x : Int) ∧ x < 18446744073709551616 := by
  have := bounds_u64 h
  exact ⟨n.toNat, by omega, by omega⟩

/-- New blocks alone: nothing that was there has changed. -/
structure Ext (w w' : World) : Prop where
  below : Below w.heap.size w w'
theorem Ext.refl (w : World) : Ext w w := ⟨Below.refl _ _⟩
theorem Ext.size {w w' : World} (h : Ext w w') : w.heap.size ≤ w'.heap.size := h.below.size
theorem Ext.trans {a b c : World} (h : Ext a b) (k : Ext b c) : Ext a c := ⟨h.below.trans (k.below.mono h.size)⟩
theorem Ext.alloc {a w : World} (h : Ext a w) (o : Obj) : Ext a (w.alloc o) := ⟨h.below.alloc h.size o⟩
theorem Ext.drewN {a w : World} (h : Ext a w) (n : Nat) : Ext a (w.drewN n) := ⟨⟨h.below.os, h.below.tape, h.below.output, h.below.size, h.below.block⟩⟩
theorem Ext.drew {a w : World} (h : Ext a w) : Ext a w.drew := h.drewN 1
theorem Ext.setCell {a w : World} (h : Ext a w) {p : Addr} (hp : a.heap.size ≤ p.block) (v : Value) : Ext a (w.setCell p v) := ⟨h.below.setCell hp v⟩
theorem Ext.setRow {a w : World} (h : Ext a w) {g : Nat} (hg : a.heap.size ≤ g) (c : Array Value) : Ext a (w.setRow g c) :=
  ⟨h.below.trans ⟨rfl, rfl, rfl, by simp, fun k hk => setRow_other w g k c (by omega)⟩⟩
/-- Behind a law that ends in 'grownBy': what was written is new. -/
theorem Ext.more {a w w' : World} {row : Option Nat} (h : Ext a w) (hg : w.grownBy w' row) (hr : ∀ k, row = some k → a.heap.size ≤ k) : Ext a w' := ⟨h.below.grown hg h.size hr⟩

/-- The law answers true; nothing that was there has changed. -/
def Holds (w : World) (e : Ending) (w' : World) : Prop := e = .returned (.bool true) ∧ Ext w w'

theorem quiet_same {P : Program} {f : FuncId} {args : Array Value} {w : World} {n : Nat} {v : Value}
    (h : Calls P f args (w.drewN n) fun e w' => e = .returned v ∧ w.drewN n = w') : Calls P f args (w.drewN n) fun e w'' => e = .returned v ∧ ∃ m, w'' = w.drewN m :=
  h.mono fun _ _ ⟨he, hm⟩ => ⟨he, n, hm.symm⟩
theorem quiet_hands {P : Program} {f : FuncId} {args : Array Value} {w : World} {n : Nat} {v : Value}
    (h : Calls P f args (w.drewN n) (Hands v (w.drewN n))) : Calls P f args (w.drewN n) fun e w'' => e = .returned v ∧ ∃ m, w'' = w.drewN m :=
  h.mono fun _ _ ⟨he, m, hm⟩ => ⟨he, n + m, by rw [hm, World.drewN_drewN]⟩

section
variable {P : Program} {ops : Array Oper} {C : World → Prop} {Q : Act → Prop}
theorem wpQuiet_load {o : Oper} {rest : List Oper} {a : Act} (hgd : o.guard = none) (ty : TypeId) (x : Operand) (ho : o.op = .load ty x) (v : Value)
    (hrun : ∀ w, C w → (Instr.loadAt ty (a.eval x)).run P w = .ok v w) (h : wpQuiet P ops C Q rest (a.put o.dst v)) : wpQuiet P ops C Q (o :: rest) a := by
  unfold wpQuiet
  rw [if_pos (by simp [Region.wanted, hgd])]
  refine ⟨v, fun w hw => ?_, h⟩
  unfold Oper.quietAt
  simp only [execOp, ho, Sem.run_bind, hrun w hw, Result.andThen, Sem.run_pure]
  exact ⟨rfl, rfl⟩
theorem wpQuiet_store {o : Oper} {rest : List Oper} {a : Act} (hgd : o.guard = none) (ty : TypeId) (x y : Operand) (ho : o.op = .store ty x y)
    (hrun : ∀ w, C w → (Instr.storeAt ty (a.eval x) (a.eval y)).run P w = .ok () w) (h : wpQuiet P ops C Q rest (a.put o.dst undef)) : wpQuiet P ops C Q (o :: rest) a := by
  unfold wpQuiet
  rw [if_pos (by simp [Region.wanted, hgd])]
  refine ⟨undef, fun w hw => ?_, h⟩
  unfold Oper.quietAt
  simp only [execOp, ho, Sem.run_bind, hrun w hw, Result.andThen, Sem.run_pure]
  exact ⟨rfl, rfl⟩
theorem setRow_same (w : World) (b : Nat) (c : Array Value) (t : TypeId) (hg : w.heap[b]? = some (.cells c t (0, 0))) : w.setRow b c = w := by
  cases w with
  | _ =>
    simp only [World.setRow] at hg ⊢
    congr 1
    apply Array.ext_getElem?
    intro i
    rw [Array.getElem?_modify]
    split
    · rename_i e; subst e; rw [hg]; rfl
    · rfl
theorem run_store_back (w : World) (b : Nat) (t : TypeId) (c : Array Value) (hg : w.heap[b]? = some (.cells c t (0, 0))) (hi : (P.info? t).map (·.size) = some c.size) (h1 : c.all (·.oneCell') = true) :
    (Instr.storeAt t (.pointer (some ⟨b, 0, none⟩)) (.agg c)).run P w = .ok () w := by
  simp only [Instr.storeAt, Instr.sureAddr, Sem.run_bind, Sem.run_pure, Result.andThen]
  rw [run_storeVar_row w b t t c c hg hi rfl h1, setRow_same w b c t hg]
theorem run_load_all (w : World) (b : Nat) (t : TypeId) (c : Array Value) (n : Nat) (e : TypeId) (hu : P.underlying t = some (.array n e)) (hg : w.heap[b]? = some (.cells c t (0, 0))) (hi : (P.info? t).map (·.size) = some c.size) :
    (Instr.loadAt t (.pointer (some ⟨b, 0, none⟩))).run P w = .ok (.agg c) w := by
  simp only [Instr.loadAt, Instr.sureAddr, Sem.run_bind, Sem.run_pure, Result.andThen]
  exact run_loadVar_row w b t t c (0, 0) _ hg hu rfl hi
theorem results_cell_cell {fn : Func} {p u : Tmp} {ty tz : TypeId} (h : fn.results = #[.cell p ty, .cell u tz]) (tmps : Array Value) (P : Program) (w : World) :
    (results fn tmps).run P w =
      ((asAddr (tmps.getD p undef)).run P w).andThen fun a w₁ => ((loadVar ty a).run P w₁).andThen fun v w₂ =>
        ((asAddr (tmps.getD u undef)).run P w₂).andThen fun b w₃ => ((loadVar tz b).run P w₃).andThen fun z w₄ => .ok (.tuple #[v, z]) w₄ := by
  simp only [results, h]
  simp [Sem.run_bind, Result.andThen]
end

/-! ### A struct that is built of two arrays -/
theorem fold_at (off : Nat) : ∀ (l : List Value) (k : Nat) (base : Array Value) (i : Nat),
    ((l.zipIdx k).foldl (fun cs x => cs.setIfInBounds (off + x.2) x.1) base)[i]? = if off + k ≤ i ∧ i < off + k + l.length ∧ i < base.size then l[i - (off + k)]? else base[i]?
  | [], k, base, i => by
    rw [if_neg (by simp; omega)]; rfl
  | c :: l, k, base, i => by
    simp only [List.zipIdx_cons, List.foldl_cons]
    rw [fold_at off l (k + 1) (base.setIfInBounds (off + k) c) i]
    simp only [Array.size_setIfInBounds, List.length_cons, Array.getElem?_setIfInBounds]
    by_cases h1 : off + k = i
    · subst h1
      rw [if_neg (by omega), if_pos rfl]
      by_cases h2 : off + k < base.size
      · rw [if_pos h2, if_pos ⟨Nat.le_refl _, by omega, h2⟩]; simp
      · rw [if_neg h2, if_neg (by omega)]
        rw [Array.getElem?_eq_none (by omega)]
    · rw [if_neg h1]
      by_cases h2 : off + (k + 1) ≤ i ∧ i < off + (k + 1) + l.length ∧ i < base.size
      · rw [if_pos h2, if_pos (by omega)]
        rw [show i - (off + k) = (i - (off + (k + 1))) + 1 from by omega, List.getElem?_cons_succ]
      · rw [if_neg h2, if_neg (by omega)]

theorem fold_size (off : Nat) : ∀ (l : List (Value × Nat)) (base : Array Value), (l.foldl (fun cs x => cs.setIfInBounds (off + x.2) x.1) base).size = base.size
  | [], _ => rfl
  | c :: l, base => by rw [List.foldl_cons, fold_size off l]; simp

def putIn (off : Nat) (p base : Array Value) : Array Value := p.zipIdx.foldl (fun cs x => cs.setIfInBounds (off + x.2) x.1) base
theorem putIn_at (off : Nat) (p base : Array Value) (i : Nat) : (putIn off p base)[i]? = if off ≤ i ∧ i < off + p.size ∧ i < base.size then p[i - off]? else base[i]? := by
  have h := fold_at off p.toList 0 base i
  unfold putIn
  rw [← Array.foldl_toList, Array.toList_zipIdx, h]
  simp
theorem putIn_size (off : Nat) (p base : Array Value) : (putIn off p base).size = base.size := by
  unfold putIn
  rw [← Array.foldl_toList, fold_size]
theorem wpList_store_all {P : Program} {ops : Array Oper} {rest : List Oper} {op : Oper} {a : Act} {w : World} {Q : Exit → Act → World → Prop} (hgd : op.guard = none) (ty : TypeId) (x y : Operand) (ho : op.op = .store ty x y)
    (b : Nat) (c c' : Array Value) (hx : a.eval x = .pointer (some ⟨b, 0, none⟩)) (hy : a.eval y = .agg c')
    (hg : w.heap[b]? = some (.cells c ty (0, 0))) (hi : (P.info? ty).map (·.size) = some c'.size) (hc : c.size = c'.size) (h1 : c'.all (·.oneCell') = true)
    (h : wpList P ops Q rest (a.put op.dst undef) (w.setRow b c')) : wpList P ops Q (op :: rest) a w :=
  wpList_plain hgd fun _ hK => by
    unfold Oper.wp execOp
    simp only [ho, hx, hy, Instr.storeAt, Instr.sureAddr, Sem.run_bind, Sem.run_pure, Result.andThen_ok, run_storeVar_row w b ty ty c c' hg hi hc h1]
    exact hK _ _ h

theorem wpList_build_of {P : Program} {ops : Array Oper} {rest : List Oper} {op : Oper} {a : Act} {w : World} {Q : Exit → Act → World → Prop} (hgd : op.guard = none) (t : TypeId) (parts : Array (Nat × Operand)) (ho : op.op = .build t parts)
    (vs : Array (Nat × Value)) (hv : (parts.map fun (i, x) => (i, a.eval x)) = vs) (F : Array Value) (hF : P.built t vs.toList = some F)
    (h : wpList P ops Q rest (a.put op.dst (.agg F)) w) : wpList P ops Q (op :: rest) a w :=
  wpList_plain hgd fun _ hK => by
    unfold Oper.wp execOp
    simp only [ho, hv, Sem.run_bind, run_build w t vs F hF, Result.andThen_ok, Sem.run_pure]
    exact hK _ _ h
theorem wpList_box_of {P : Program} {ops : Array Oper} {rest : List Oper} {op : Oper} {a : Act} {w : World} {Q : Exit → Act → World → Prop} (hgd : op.guard = none) (t : TypeId) (x : Operand) (ho : op.op = .box t x)
    (F : Array Value) (hx : a.eval x = .agg F)
    (h : wpList P ops Q rest (a.put op.dst (.pointer (some ⟨w.heap.size, 0, none⟩))) (w.alloc (.cells F t))) : wpList P ops Q (op :: rest) a w :=
  wpList_plain hgd fun _ hK => by
    have hr : (Instr.box t (.agg F)).run P w = .ok (.pointer (some ⟨w.heap.size, 0, none⟩)) (w.alloc (.cells F t)) := by
      simp [Instr.box, newVar, Value.cells, go_sem]
    unfold Oper.wp execOp
    simp only [ho, hx, Sem.run_bind, hr, Result.andThen_ok, Sem.run_pure]
    exact hK _ _ h

end Go.Proofs.Ytnfgokbopndmgaa

/-
  Slices of bytes that read as a list: what it means, and that it stays while only new blocks are laid. Conditions: none.
-/
namespace Go.Proofs.Ytnfgokbopndmgaa
open Go.RowKit
open Pol (co Sm)

/-- From address A on lie the bytes l. -/
def Rd (w : World) (A : Option Addr) (l : List Nat) : Prop :=
  Sm l ∧ ∀ i, i < l.length → ∃ b o, A = some ⟨b, o, none⟩ ∧ w.cell? ⟨b, o + i, none⟩ = some (.int .u8 ((co l i : Nat) : Int))
theorem Rd.ext {w w' : World} {A : Option Addr} {l : List Nat} (h : Rd w A l) (hx : Ext w w') : Rd w' A l :=
  ⟨h.1, fun i hi => by
    obtain ⟨b, o, e, hc⟩ := h.2 i hi
    exact ⟨b, o, e, (hx.below.cell (p := ⟨b, o + i, none⟩) (block_lt_of_cell hc)).trans hc⟩⟩
theorem Rd.drewN {w : World} {A : Option Addr} {l : List Nat} (h : Rd w A l) (n : Nat) : Rd (w.drewN n) A l := h
theorem Rd.nil (w : World) (A : Option Addr) : Rd w A [] := ⟨Sm.nil, fun i hi => absurd hi (by simp)⟩
theorem Rd.addr {w : World} {A : Option Addr} {l : List Nat} (h : Rd w A l) (hl : 0 < l.length) : ∃ b o, A = some ⟨b, o, none⟩ ∧ ∀ i, i < l.length → w.cell? ⟨b, o + i, none⟩ = some (.int .u8 ((co l i : Nat) : Int)) := by
  obtain ⟨b, o, rfl, _⟩ := h.2 0 hl
  refine ⟨b, o, rfl, fun i hi => ?_⟩
  obtain ⟨b', o', e, hc⟩ := h.2 i hi
  injection e with e
  injection e with e1 e2
  subst e1; subst e2
  exact hc

/-- A call that hands back v; all else is as it was. -/
def Tells (v : Value) (w : World) (e : Ending) (w' : World) : Prop := e = .returned v ∧ Ext w w'
theorem Hands.tells {v : Value} {w : World} {e : Ending} {w' : World} (h : Hands v w e w') : Tells v w e w' := by
  obtain ⟨he, n, rfl⟩ := h
  exact ⟨he, (Ext.refl _).drewN n⟩
end Go.Proofs.Ytnfgokbopndmgaa

/-
  What append and make do with slices of bytes of a call's own, in terms of the lists that they read as. Conditions: the lengths add up to no more than 2^40.
-/
namespace Go.Proofs.Ytnfgokbopndmgaa
open Go.RowKit
open Pol (co Sm)

theorem u8_info : (Try.prog.info? 5).map (fun i => (i.zero, i.size, i.bytes)) = some (some (.int .u8 0), 1, 1) := by kernel_rfl
/-- Bytes as values. -/
def bv (l : List Nat) : List Value := l.map fun x : Nat => Value.int .u8 (x : Int)
theorem bv_len (l : List Nat) : (bv l).length = l.length := by simp [bv]
theorem bv_at (l : List Nat) (i : Nat) (h : i < l.length) : (bv l)[i]? = some (.int .u8 ((co l i : Nat) : Int)) := by
  simp [bv, co, List.getElem?_eq_getElem h]
theorem bv_one (l : List Nat) : ∀ u ∈ bv l, u.oneCell' = true := by
  intro u hu
  obtain ⟨x, _, rfl⟩ := List.mem_map.1 hu
  rfl
theorem bv_append (l m : List Nat) : bv (l ++ m) = bv l ++ bv m := by simp [bv]
/-- A slice of the call's own, of the bytes l. -/
def Mine (w : World) (base : Nat) (v : Value) (l : List Nat) : Prop := w.ownsRow base 5 1 v l.length (bv l)
theorem Mine.slice {w : World} {base : Nat} {v : Value} {l : List Nat} (h : Mine w base v l) (hs : Sm l) : ∃ B c, v = .slice B l.length c ∧ l.length ≤ c ∧ Rd w B l := by
  rcases h.2 with ⟨rfl, hn⟩ | ⟨g, cap, cur, rfl, _, hg, hnc, _, _, htake⟩
  · have : l = [] := List.eq_nil_of_length_eq_zero hn
    subst this
    exact ⟨none, 0, rfl, Nat.le_refl _, Rd.nil _ _⟩
  · refine ⟨_, cap, rfl, hnc, hs, fun i hi => ⟨g, 0, rfl, ?_⟩⟩
    rw [Nat.zero_add, cell_of_row w g i cur _ _ hg, ← bv_at l i hi, ← htake, List.getElem?_take, if_pos (by omega)]
    simp
theorem addr_add (b o j : Nat) : (⟨b, o, none⟩ : Addr).add j = ⟨b, o + j, none⟩ := Addr.add_mid b o j

set_option maxRecDepth 100000 in
theorem run_append_rd (w : World) (base : Nat) (ty : TypeId) (v : Value) (l m : List Nat) (hown : Mine w base v l) (A : Option Addr) (c : Nat) (hr : Rd w A m)
    (hlen : l.length + m.length ≤ 140737488355328) (hbase : base ≤ w.heap.size) :
    ∃ v' w', (Builtin.append_ #[23, 23] ty #[v, .slice A m.length c]).run Try.prog w = .ok v' w' ∧ Mine w' base v' (l ++ m) ∧ w.grownBy w' v.ownBlock ∧ (v'.ownBlock = v.ownBlock ∨ v'.ownBlock = some w.heap.size) := by
  obtain ⟨i0, hi, hz0, hz1, hz2⟩ := info_parts u8_info
  cases A with
  | none =>
    have hm : m = [] := by
      rcases Nat.eq_zero_or_pos m.length with h | h
      · exact List.eq_nil_of_length_eq_zero h
      · obtain ⟨_, _, e, _⟩ := hr.2 0 h; cases e
    subst hm
    refine ⟨v, w, ?_, by simpa using hown, ⟨rfl, rfl, rfl, Nat.le_refl _, fun _ _ _ => rfl⟩, .inl rfl⟩
    rcases hown.2 with ⟨rfl, _⟩ | ⟨g, cap, cur, rfl, _, _, hnc, _⟩
    · simp [Builtin.append_, run_underlying Try.underlying23, sizeOf, typeInfo, hi, Builtin.lenOf, Builtin.firstCells]
    · simp [Builtin.append_, run_underlying Try.underlying23, sizeOf, typeInfo, hi, Builtin.lenOf, Builtin.firstCells, hnc, storeCells]
  | some a =>
    have hcells : ∀ j u, (bv m)[j]? = some u → w.cell? (a.add j) = some u := by
      intro j u hu
      have hj : j < m.length := by
        have := (List.getElem?_eq_some_iff.1 hu).1
        rwa [bv_len] at this
      obtain ⟨b, o, e, hc⟩ := hr.2 j hj
      injection e with e
      subst e
      rw [addr_add, hc, ← bv_at m j hj, hu]
    obtain ⟨v', w', h1, h2, h3, _, h5⟩ := run_append_own_at (P := Try.prog) w base 23 ty 5 i0 (.int .u8 0) 1 1 Try.underlying23 hi hz0 hz1 hz2 rfl (by omega) v l.length (bv l) hown a m.length c (bv m) (by rw [bv_len, Nat.mul_one]) hcells (bv_one m)
      (by unfold maxLen; omega) (by omega) hbase
    exact ⟨v', w', h1, by unfold Mine; rw [List.length_append, bv_append]; exact h2, h3, h5⟩

/-- At the operation, for the walk. -/
theorem wpList_append_rd {ops : Array Oper} {rest : List Oper} {o : Oper} {a : Act} {w : World} {Q : Exit → Act → World → Prop} (hgd : o.guard = none) (s x : Operand)
    (ho : o.op = .call { callee := .builtin .append, args := #[s, x], argTypes := #[23, 23] })
    (base : Nat) (v : Value) (l m : List Nat) (hs : a.eval s = v) (hown : Mine w base v l) (A : Option Addr) (n c : Nat) (hx : a.eval x = .slice A n c) (hn : m.length = n) (hr : Rd w A m)
    (hlen : l.length + m.length ≤ 140737488355328) (hbase : base ≤ w.heap.size)
    (h : ∀ v' w', Mine w' base v' (l ++ m) → w.grownBy w' v.ownBlock → (v'.ownBlock = v.ownBlock ∨ v'.ownBlock = some w.heap.size) → wpList Try.prog ops Q rest (a.put o.dst v') w') :
    wpList Try.prog ops Q (o :: rest) a w := by
  subst hn
  refine wpList_plain hgd fun K hK => ?_
  obtain ⟨v', w', hrun, h2, h3, h4⟩ := run_append_rd w base o.type v l m hown A c hr hlen hbase
  unfold Oper.wp execOp
  simp only [ho, resolve, invoke, builtin, Sem.run_bind, Sem.run_pure, Result.andThen_ok, List.map_toArray, List.map_cons, List.map_nil, hs, hx, hrun]
  exact hK _ _ (h v' w' h2 h3 h4)

/-- A call that hands back a slice that reads as l; all else is as it was. -/
def Gives (l : List Nat) (w : World) (e : Ending) (w' : World) : Prop := ∃ B c, e = .returned (.slice B l.length c) ∧ l.length ≤ c ∧ Rd w' B l ∧ Ext w w'
theorem gives_of {w w' : World} {base : Nat} {v : Value} {l m : List Nat} (hm : Mine w' base v l) (hl : l = m) (hs : Sm m) (hx : Ext w w') : Gives m w (.returned v) w' := by
  subst hl
  obtain ⟨B, c, rfl, hc, hr⟩ := hm.slice hs
  exact ⟨B, c, rfl, hc, hr, hx⟩
theorem Rd.take {w : World} {A : Option Addr} {l : List Nat} (h : Rd w A l) (k : Nat) : Rd w A (l.take k) := by
  refine ⟨Pol.co_lt_of fun x hx => h.1.mem x (List.mem_of_mem_take hx), fun i hi => ?_⟩
  have hk : i < k ∧ i < l.length := by rw [List.length_take] at hi; omega
  obtain ⟨b, o, e, hc⟩ := h.2 i hk.2
  refine ⟨b, o, e, ?_⟩
  rw [hc]
  unfold co
  rw [List.getElem?_take, if_pos hk.1]
theorem mine_empty (w : World) : Mine (w.alloc (.cells #[] 5)) w.heap.size (.slice (some ⟨w.heap.size, 0, none⟩) 0 0) [] := World.ownsRow_lit w #[] 0 (Nat.le_refl _) (Nat.zero_le _) rfl
theorem rd_lit (w : World) (l : List Nat) (h : Sm l) : Rd (w.alloc (.cells (bv l).toArray 5)) (some ⟨w.heap.size, 0, none⟩) l :=
  ⟨h, fun i hi => ⟨w.heap.size, 0, rfl, by
    rw [cell_of_row _ _ _ _ _ _ (heap_alloc_new w _), Nat.zero_add]
    simpa using bv_at l i hi⟩⟩
theorem rd_lit_next (w : World) (o : Obj) (l : List Nat) (h : Sm l) : Rd ((w.alloc o).alloc (.cells (bv l).toArray 5)) (some ⟨w.heap.size + 1, 0, none⟩) l := by
  have := rd_lit (w.alloc o) l h
  rwa [show (w.alloc o).heap.size = w.heap.size + 1 from by simp] at this
theorem rd_one (w : World) (p : Nat) (hp : p < 256) : Rd (w.alloc (.cells #[.int .u8 (p : Int)] 5)) (some ⟨w.heap.size, 0, none⟩) [p] :=
  ⟨Sm.cons hp Sm.nil, fun i hi => ⟨w.heap.size, 0, rfl, by
    rw [cell_of_row _ _ _ _ _ _ (heap_alloc_new w _)]
    match i, hi with
    | 0, _ => simp [co]⟩⟩
theorem rd_two (w : World) (p q : Nat) (hp : p < 256) (hq : q < 256) : Rd (w.alloc (.cells #[.int .u8 (p : Int), .int .u8 (q : Int)] 5)) (some ⟨w.heap.size, 0, none⟩) [p, q] :=
  ⟨Sm.cons hp (Sm.cons hq Sm.nil), fun i hi => ⟨w.heap.size, 0, rfl, by
    rw [cell_of_row _ _ _ _ _ _ (heap_alloc_new w _)]
    match i, hi with
    | 0, _ => simp [co]
    | 1, _ => simp [co]⟩⟩
/-- A slice value that reads as l. -/
def Sl (w : World) (v : Value) (l : List Nat) : Prop := ∃ B c, v = .slice B l.length c ∧ l.length ≤ c ∧ Rd w B l
theorem Sl.ext {w w' : World} {v : Value} {l : List Nat} (h : Sl w v l) (hx : Ext w w') : Sl w' v l := by
  obtain ⟨B, c, rfl, hc, hr⟩ := h
  exact ⟨B, c, rfl, hc, hr.ext hx⟩
end Go.Proofs.Ytnfgokbopndmgaa

/-
  Bytes that a call makes and fills one by one: a block as a function of the place. Conditions: none.
-/
namespace Go.Proofs.Ytnfgokbopndmgaa
open Go.RowKit
open Pol (co Sm)

/-- n bytes, the one at place i being f i: as cells, and as a list. -/
def bt (n : Nat) (f : Nat → Nat) : Array Value := Array.ofFn (n := n) fun i => Value.int .u8 ((f i.val : Nat) : Int)
def tab (n : Nat) (f : Nat → Nat) : List Nat := (List.range n).map f
def upd (f : Nat → Nat) (k v : Nat) : Nat → Nat := fun i => if i = k then v else f i
theorem bt_size (n : Nat) (f : Nat → Nat) : (bt n f).size = n := by simp [bt]
theorem bt_at (n : Nat) (f : Nat → Nat) (i : Nat) (h : i < n) : (bt n f)[i]? = some (.int .u8 ((f i : Nat) : Int)) := by simp [bt, h]
theorem bt_set (n : Nat) (f : Nat → Nat) (k v : Nat) : (bt n f).setIfInBounds k (.int .u8 (v : Int)) = bt n (upd f k v) := by
  apply Array.ext (by simp [bt])
  intro i h1 h2
  simp only [bt, Array.size_setIfInBounds, Array.size_ofFn] at h1
  rw [Array.getElem_setIfInBounds (by simpa [bt] using h1)]
  by_cases e : k = i
  · subst e; simp [bt, upd]
  · rw [if_neg e]
    simp only [bt, Array.getElem_ofFn, upd]
    rw [if_neg (fun h => e h.symm)]
theorem bt_made (n : Nat) : madeCells #[.int .u8 0] n = bt n (fun _ => 0) := by
  apply Array.ext (by simp [bt, size_madeCells])
  intro i h1 h2
  simp [madeCells, bt, Nat.mod_one]
theorem tab_len (n : Nat) (f : Nat → Nat) : (tab n f).length = n := by simp [tab]
theorem co_tab (n : Nat) (f : Nat → Nat) (i : Nat) : co (tab n f) i = if i < n then f i else 0 := by
  unfold co tab
  rw [List.getElem?_map]
  by_cases h : i < n
  · rw [if_pos h, List.getElem?_range h]; rfl
  · rw [if_neg h, List.getElem?_eq_none (by simp; omega)]; rfl
theorem tab_sm (n : Nat) (f : Nat → Nat) (h : ∀ i, i < n → f i < 256) : Sm (tab n f) := fun i => by
  rw [co_tab]
  split
  · exact h i (by assumption)
  · omega
/-- Block g holds just these n bytes. -/
def Blk (w : World) (g n : Nat) (f : Nat → Nat) : Prop := w.heap[g]? = some (.cells (bt n f) 5 (0, 0))
theorem Blk.cell {w : World} {g n : Nat} {f : Nat → Nat} (h : Blk w g n f) (i : Nat) (hi : i < n) : w.cell? ⟨g, i, none⟩ = some (.int .u8 ((f i : Nat) : Int)) := by
  rw [cell_of_row w g i _ _ _ h, bt_at n f i hi]
theorem Blk.frozen {w : World} {g n : Nat} {f : Nat → Nat} (h : Blk w g n f) (i : Nat) : w.frozen? ⟨g, i, none⟩ = false := frozen_of_row w g i _ _ h
theorem Blk.store {w : World} {g n : Nat} {f : Nat → Nat} (h : Blk w g n f) (k v : Nat) : Blk (w.setCell ⟨g, k, none⟩ (.int .u8 (v : Int))) g n (upd f k v) := by
  unfold Blk
  rw [heap_setCell_same w g k _ _ _ h, bt_set]
theorem Blk.drewN {w : World} {g n : Nat} {f : Nat → Nat} (h : Blk w g n f) (m : Nat) : Blk (w.drewN m) g n f := h
theorem Blk.new (w : World) (n : Nat) (f : Nat → Nat) : Blk (w.alloc (.cells (bt n f) 5)) w.heap.size n f := heap_alloc_new w _
theorem Blk.congr {w : World} {g n : Nat} {f f' : Nat → Nat} (h : Blk w g n f) (hf : ∀ i, i < n → f i = f' i) : Blk w g n f' := by
  have e : bt n f = bt n f' := by
    apply Array.ext (by simp [bt])
    intro i h1 h2
    have hi : i < n := by simpa [bt] using h1
    simp [bt, hf i hi]
  unfold Blk
  rw [← e]
  exact h
theorem Blk.reads {w : World} {g n : Nat} {f : Nat → Nat} (h : Blk w g n f) (hs : ∀ i, i < n → f i < 256) : Rd w (some ⟨g, 0, none⟩) (tab n f) :=
  ⟨tab_sm n f hs, fun i hi => ⟨g, 0, rfl, by
    rw [tab_len] at hi
    rw [Nat.zero_add, h.cell i hi, co_tab, if_pos hi]⟩⟩
theorem Blk.lt {w : World} {g n : Nat} {f : Nat → Nat} (h : Blk w g n f) : g < w.heap.size := by
  rcases Nat.lt_or_ge g w.heap.size with hlt | hge
  · exact hlt
  · unfold Blk at h; rw [Array.getElem?_eq_none hge] at h; cases h
theorem Blk.ext {w w' : World} {g n : Nat} {f : Nat → Nat} (h : Blk w g n f) (hx : Ext w w') : Blk w' g n f := (hx.below.block g h.lt).trans h

set_option maxRecDepth 100000 in
/-- make([]byte, n). -/
theorem run_make_u8 (n : Nat) (hn : n ≤ 1099511627776) (w : World) :
    (Instr.makeSlice 23 (.int .i64 (n : Int)) (.int .i64 (n : Int))).run Try.prog w = .ok (.slice (some ⟨w.heap.size, 0, none⟩) n n) (w.alloc (.cells (bt n fun _ => 0) 5)) := by
  obtain ⟨i0, hi, hz0, hz1, hz2⟩ := info_parts u8_info
  have h := run_make (P := Try.prog) w 23 5 i0 (.int .u8 0) Try.underlying23 hi hz0 .i64 .i64 n n (by omega) (by omega) (by rw [hz2]; omega) (by omega)
  simp only [Int.toNat_natCast, hz1, Nat.mul_one] at h
  rw [h, ← bt_made]
  rfl
end Go.Proofs.Ytnfgokbopndmgaa

/-
  The plain mathematics of linear equations over the field: what the kernel of some rows tells, which unknowns are free, the one solution whose free unknowns are 0, and the rank. Conditions: none; nothing of the program is named here.
-/
namespace Lin
open Gf (mul quo)
open Pol (xs co Sm)

/-- All are bytes. -/
def By (x : Nat → Nat) : Prop := ∀ k, x k < 256
/-- A row times unknowns. -/
def dot (N : Nat) (r x : Nat → Nat) : Nat := xs N fun k => mul (r k) (x k)
theorem dot_lt (N : Nat) (r x : Nat → Nat) : dot N r x < 256 := Pol.xs_lt N fun _ _ => Gf.mul_lt _ _
theorem dot_add (N : Nat) (r x y : Nat → Nat) (hr : By r) (hx : By x) (hy : By y) : dot N r (fun k => x k ^^^ y k) = dot N r x ^^^ dot N r y := by
  unfold dot
  rw [← Pol.xs_add]
  exact Pol.xs_congr N fun k _ => Gf.mul_add _ _ _ (hr k) (hx k) (hy k)
theorem dot_add_left (N : Nat) (r s x : Nat → Nat) (hr : By r) (hs : By s) (hx : By x) : dot N (fun k => r k ^^^ s k) x = dot N r x ^^^ dot N s x := by
  unfold dot
  rw [← Pol.xs_add]
  exact Pol.xs_congr N fun k _ => Gf.add_mul _ _ _ (hr k) (hs k) (hx k)
theorem dot_smul_left (N : Nat) (c : Nat) (r x : Nat → Nat) (hc : c < 256) (hr : By r) (hx : By x) : dot N (fun k => mul c (r k)) x = mul c (dot N r x) := by
  unfold dot
  rw [Pol.mul_xs c _ hc N fun _ _ => Gf.mul_lt _ _]
  exact Pol.xs_congr N fun k _ => Gf.mul_assoc _ _ _ hc (hr k) (hx k)
theorem dot_comm (N : Nat) (r x : Nat → Nat) : dot N r x = dot N x r := Pol.xs_congr N fun _ _ => Gf.mul_comm _ _
theorem dot_smul (N : Nat) (c : Nat) (r x : Nat → Nat) (hc : c < 256) (hr : By r) (hx : By x) : dot N r (fun k => mul c (x k)) = mul c (dot N r x) := by
  rw [dot_comm, dot_smul_left N c x r hc hx hr, dot_comm]
theorem dot_congr {N : Nat} {r s x y : Nat → Nat} (h : ∀ k, k < N → r k = s k) (h' : ∀ k, k < N → x k = y k) : dot N r x = dot N s y := Pol.xs_congr N fun k hk => by rw [h k hk, h' k hk]
theorem dot_zero (N : Nat) (r x : Nat → Nat) (h : ∀ k, k < N → r k = 0 ∨ x k = 0) : dot N r x = 0 := Pol.xs_zero N fun k hk => by
  rcases h k hk with e | e
  · rw [e, Gf.zero_mul]
  · rw [e, Gf.mul_zero]
theorem dot_single (N : Nat) (r x : Nat → Nat) (c : Nat) (hc : c < N) (h : ∀ k, k < N → k ≠ c → r k = 0 ∨ x k = 0) : dot N r x = mul (r c) (x c) :=
  Pol.xs_single _ c N hc fun k hk hne => by
    rcases h k hk hne with e | e
    · rw [e, Gf.zero_mul]
    · rw [e, Gf.mul_zero]

/-- Closed under sums and multiples. -/
structure IsLin (K : (Nat → Nat) → Prop) : Prop where
  add : ∀ x y, By x → By y → K x → K y → K (fun k => x k ^^^ y k)
  smul : ∀ c x, c < 256 → By x → K x → K (fun k => mul c (x k))
  /-- it depends on the values alone -/
  cong : ∀ x y, (∀ k, x k = y k) → K x → K y

/-- What all rows send to 0. -/
def KL (N : Nat) (rows : List (List Nat)) (x : Nat → Nat) : Prop := ∀ r ∈ rows, dot N (co r) x = 0
def Bytes (rows : List (List Nat)) : Prop := ∀ r ∈ rows, Sm r
theorem kl_lin (N : Nat) (rows : List (List Nat)) (h : Bytes rows) : IsLin (KL N rows) where
  add := fun x y hx hy h1 h2 r hr => by rw [dot_add N (co r) x y (h r hr) hx hy, h1 r hr, h2 r hr]; rfl
  smul := fun c x hc hx h1 r hr => by rw [dot_smul N c (co r) x hc (h r hr) hx, h1 r hr, Gf.mul_zero]
  cong := fun x y e h1 r hr => by rw [← h1 r hr]; exact dot_congr (fun _ _ => rfl) (fun k _ => (e k).symm)

/-- Something in K has its last part at c. -/
def Free (K : (Nat → Nat) → Prop) (c : Nat) : Prop := ∃ v, By v ∧ K v ∧ v c ≠ 0 ∧ ∀ j, c < j → v j = 0
def Alike (K K' : (Nat → Nat) → Prop) : Prop := ∀ x, By x → (K x ↔ K' x)
theorem Alike.symm {K K' : (Nat → Nat) → Prop} (h : Alike K K') : Alike K' K := fun x hx => (h x hx).symm
theorem Alike.trans {K K' K'' : (Nat → Nat) → Prop} (h : Alike K K') (k : Alike K' K'') : Alike K K'' := fun x hx => (h x hx).trans (k x hx)
theorem Alike.free {K K' : (Nat → Nat) → Prop} (h : Alike K K') (c : Nat) : Free K c ↔ Free K' c :=
  ⟨fun ⟨v, hv, k, r⟩ => ⟨v, hv, (h v hv).1 k, r⟩, fun ⟨v, hv, k, r⟩ => ⟨v, hv, (h v hv).2 k, r⟩⟩

/-- The unknowns, and 1 behind them. -/
def ext1 (n : Nat) (x : Nat → Nat) : Nat → Nat := fun k => if k < n then x k else if k = n then 1 else 0
theorem ext1_by (n : Nat) (x : Nat → Nat) (h : By x) : By (ext1 n x) := fun k => by
  unfold ext1
  split
  · exact h k
  · split <;> omega
/-- The solution whose free unknowns are 0; and: there is none. -/
structure SolSome (K : (Nat → Nat) → Prop) (n : Nat) (x : List Nat) : Prop where
  len : x.length = n
  sm : Sm x
  sol : K (ext1 n (co x))
  zero : ∀ c, c < n → Free K c → co x c = 0
def SolNone (K : (Nat → Nat) → Prop) (n : Nat) : Prop := ∀ x, By x → ¬ K (ext1 n x)
theorem SolSome.alike {K K' : (Nat → Nat) → Prop} {n : Nat} {x : List Nat} (h : SolSome K n x) (e : Alike K K') : SolSome K' n x :=
  ⟨h.len, h.sm, (e _ (ext1_by n _ h.sm)).1 h.sol, fun c hc hf => h.zero c hc ((e.free c).2 hf)⟩
theorem SolNone.alike {K K' : (Nat → Nat) → Prop} {n : Nat} (h : SolNone K n) (e : Alike K K') : SolNone K' n := fun x hx k => h x hx ((e _ (ext1_by n _ hx)).2 k)
theorem SolSome.not_none {K : (Nat → Nat) → Prop} {n : Nat} {x : List Nat} (h : SolSome K n x) : ¬ SolNone K n := fun k => k _ h.sm h.sol

theorem top_of : ∀ (n : Nat) (d : Nat → Nat), (∀ k, n ≤ k → d k = 0) → (∃ c, c < n ∧ d c ≠ 0 ∧ ∀ j, c < j → d j = 0) ∨ ∀ k, d k = 0
  | 0, _, h => .inr fun k => h k (Nat.zero_le _)
  | n + 1, d, h => by
    by_cases e : d n = 0
    · rcases top_of n d (fun k hk => by
        by_cases hk' : k = n
        · rw [hk', e]
        · exact h k (by omega)) with ⟨c, hc, r⟩ | r
      · exact .inl ⟨c, by omega, r⟩
      · exact .inr r
    · exact .inl ⟨n, by omega, e, fun j hj => h j (by omega)⟩

theorem list_ext {x y : List Nat} (hl : x.length = y.length) (h : ∀ i, i < x.length → co x i = co y i) : x = y := by
  apply List.ext_getElem hl
  intro i h1 h2
  have := h i h1
  unfold co at this
  rw [List.getElem?_eq_getElem h1, List.getElem?_eq_getElem h2] at this
  exact this
theorem sol_one {K : (Nat → Nat) → Prop} (hK : IsLin K) {n : Nat} {x y : List Nat} (h : SolSome K n x) (k : SolSome K n y) : x = y := by
  have hd := hK.add _ _ (ext1_by n _ h.sm) (ext1_by n _ k.sm) h.sol k.sol
  have hz : ∀ j, n ≤ j → (ext1 n (co x) j ^^^ ext1 n (co y) j) = 0 := fun j hj => by
    have e : ext1 n (co x) j = ext1 n (co y) j := by
      unfold ext1
      rw [if_neg (show ¬ j < n by omega), if_neg (show ¬ j < n by omega)]
    rw [e, Nat.xor_self]
  rcases top_of n _ hz with ⟨c, hc, hne, htop⟩ | hall
  · exfalso
    have hf : Free K c := ⟨_, fun j => Gf.xor_lt _ _ (ext1_by n _ h.sm j) (ext1_by n _ k.sm j), hd, hne, htop⟩
    apply hne
    unfold ext1
    rw [if_pos hc, if_pos hc, h.zero c hc hf, k.zero c hc hf]
    rfl
  · refine list_ext (h.len.trans k.len.symm) fun i hi => ?_
    have := hall i
    rw [h.len] at hi
    unfold ext1 at this
    rw [if_pos hi, if_pos hi] at this
    exact Gf.xor_zero_iff _ _ this
theorem kill {K : (Nat → Nat) → Prop} (hK : IsLin K) (n : Nat) (y : Nat → Nat) (hy : By y) (h : K (ext1 n y)) : ∀ t, ∃ z, By z ∧ K (ext1 n z) ∧ ∀ c, n - t ≤ c → c < n → Free K c → z c = 0
  | 0 => ⟨y, hy, h, fun c h1 h2 => by omega⟩
  | t + 1 => by
    obtain ⟨z, hz, hk, hf⟩ := kill hK n y hy h t
    by_cases ht : n - (t + 1) < n - t
    · by_cases hfr : Free K (n - (t + 1))
      · obtain ⟨v, hv, kv, hne, htop⟩ := hfr
        obtain ⟨c, hc⟩ : ∃ c, n - (t + 1) = c := ⟨_, rfl⟩
        rw [hc] at hne htop
        obtain ⟨q, hq⟩ : ∃ q, quo (z c) (v c) = q := ⟨_, rfl⟩
        have hq256 : q < 256 := by rw [← hq]; exact Gf.quo_lt _ _
        have hkill : z c ^^^ mul q (v c) = 0 := by rw [← hq, Gf.quo_mul _ _ (hz c) (hv c) hne, Nat.xor_self]
        refine ⟨fun k => z k ^^^ mul q (v k), fun k => Gf.xor_lt _ _ (hz k) (Gf.mul_lt _ _), ?_, fun c' h1 h2 h3 => ?_⟩
        · refine hK.cong _ _ (fun k => ?_) (hK.add _ _ (ext1_by n z hz) (fun k => Gf.mul_lt q (v k)) hk (hK.smul q v hq256 hv kv))
          unfold ext1
          by_cases hkn : k < n
          · rw [if_pos hkn, if_pos hkn]
          · rw [if_neg hkn, if_neg hkn, htop k (by omega), Gf.mul_zero, Nat.xor_zero]
        · by_cases e : c' = c
          · rw [e]; exact hkill
          · show z c' ^^^ mul q (v c') = 0
            rw [htop c' (by omega), Gf.mul_zero, Nat.xor_zero]
            exact hf c' (by omega) h2 h3
      · refine ⟨z, hz, hk, fun c' h1 h2 h3 => ?_⟩
        by_cases e : c' = n - (t + 1)
        · rw [e] at h3; exact absurd h3 hfr
        · exact hf c' (by omega) h2 h3
    · exact ⟨z, hz, hk, fun c' h1 h2 h3 => hf c' (by omega) h2 h3⟩
theorem sol_or {K : (Nat → Nat) → Prop} (hK : IsLin K) (n : Nat) : (∃ x, SolSome K n x) ∨ SolNone K n := by
  by_cases h : ∃ y, By y ∧ K (ext1 n y)
  · obtain ⟨y, hy, k⟩ := h
    obtain ⟨z, hz, kz, hf⟩ := kill hK n y hy k n
    refine .inl ⟨(List.range n).map z, by simp, fun i => ?_, ?_, fun c hc hfr => ?_⟩
    · unfold co
      rw [List.getElem?_map]
      by_cases hi : i < n
      · rw [List.getElem?_range hi]; exact hz i
      · rw [List.getElem?_eq_none (by simp; omega)]; simp
    · refine hK.cong _ _ (fun k => ?_) kz
      unfold ext1
      by_cases hk : k < n
      · rw [if_pos hk, if_pos hk]
        unfold co
        rw [List.getElem?_map, List.getElem?_range hk]; rfl
      · rw [if_neg hk, if_neg hk]
    · unfold co
      rw [List.getElem?_map, List.getElem?_range hc]
      exact hf c (by omega) hc hfr
  · exact .inr fun x hx k => h ⟨x, hx, k⟩

/-! ### Counting -/
def Cnt (P : Nat → Prop) : Nat → Nat → Prop
  | 0, d => d = 0
  | N + 1, d => (P N ∧ ∃ e, d = e + 1 ∧ Cnt P N e) ∨ (¬ P N ∧ Cnt P N d)
theorem cnt_is (P : Nat → Prop) : ∀ N, ∃ d, Cnt P N d
  | 0 => ⟨0, rfl⟩
  | N + 1 => by
    obtain ⟨d, h⟩ := cnt_is P N
    by_cases e : P N
    · exact ⟨d + 1, .inl ⟨e, d, rfl, h⟩⟩
    · exact ⟨d, .inr ⟨e, h⟩⟩
theorem cnt_le {P : Nat → Prop} : ∀ {N d : Nat}, Cnt P N d → d ≤ N
  | 0, d, h => by rw [show d = 0 from h]; exact Nat.le_refl _
  | N + 1, d, h => by
    rcases h with ⟨_, e, rfl, h⟩ | ⟨_, h⟩
    · have := cnt_le h; omega
    · have := cnt_le h; omega
/-- P' holds wherever P does; then it counts no less, and where it differs at one place at most, one more at most. -/
theorem cnt_sub {P P' : Nat → Prop} : ∀ {N d d' : Nat}, (∀ c, c < N → P c → P' c) → Cnt P N d → Cnt P' N d' → d ≤ d'
  | 0, d, d', _, h, h' => by rw [show d = 0 from h]; exact Nat.zero_le _
  | N + 1, d, d', hs, h, h' => by
    rcases h with ⟨p, e, rfl, h⟩ | ⟨p, h⟩ <;> rcases h' with ⟨p', e', rfl, h'⟩ | ⟨p', h'⟩
    · have := cnt_sub (fun c hc => hs c (by omega)) h h'; omega
    · exact absurd (hs N (by omega) p) p'
    · have := cnt_sub (fun c hc => hs c (by omega)) h h'; omega
    · exact cnt_sub (fun c hc => hs c (by omega)) h h'
theorem cnt_same {P P' : Nat → Prop} {N d d' : Nat} (hs : ∀ c, c < N → (P c ↔ P' c)) (h : Cnt P N d) (h' : Cnt P' N d') : d = d' :=
  Nat.le_antisymm (cnt_sub (fun c hc => (hs c hc).1) h h') (cnt_sub (fun c hc => (hs c hc).2) h' h)
theorem cnt_more {P P' : Nat → Prop} : ∀ {N d d' : Nat}, (∀ c c', c < N → c' < N → P' c → ¬ P c → P' c' → ¬ P c' → c = c') → Cnt P N d → Cnt P' N d' → d' ≤ d + 1
  | 0, d, d', _, _, h' => by rw [show d' = 0 from h']; omega
  | N + 1, d, d', hs, h, h' => by
    rcases h with ⟨p, e, rfl, h⟩ | ⟨p, h⟩ <;> rcases h' with ⟨p', e', rfl, h'⟩ | ⟨p', h'⟩
    · have := cnt_more (fun c c' h1 h2 => hs c c' (by omega) (by omega)) h h'; omega
    · have := cnt_more (fun c c' h1 h2 => hs c c' (by omega) (by omega)) h h'; omega
    · have := cnt_sub (P := P') (P' := P) (fun c hc hp' => by
        by_cases hp : P c
        · exact hp
        · have := hs c N (by omega) (by omega) hp' hp p' p; omega) h' h
      omega
    · have := cnt_more (fun c c' h1 h2 => hs c c' (by omega) (by omega)) h h'; omega
def NotFree (K : (Nat → Nat) → Prop) (c : Nat) : Prop := ¬ Free K c
theorem rank_alike {K K' : (Nat → Nat) → Prop} {N d d' : Nat} (e : Alike K K') (h : Cnt (NotFree K) N d) (h' : Cnt (NotFree K') N d') : d = d' :=
  cnt_same (fun c _ => not_congr (e.free c)) h h'

/-! ### One row more -/
theorem kl_snoc (N : Nat) (rows : List (List Nat)) (r : List Nat) (x : Nat → Nat) : KL N (rows ++ [r]) x ↔ KL N rows x ∧ dot N (co r) x = 0 := by
  unfold KL
  simp only [List.mem_append, List.mem_singleton]
  exact ⟨fun h => ⟨fun s hs => h s (.inl hs), h r (.inr rfl)⟩, fun h s hs => hs.elim (h.1 s) (fun e => e ▸ h.2)⟩
theorem snoc_rank {N d d' : Nat} {rows : List (List Nat)} {r : List Nat} (hb : Bytes rows) (hr : Sm r) (h : Cnt (NotFree (KL N rows)) N d) (h' : Cnt (NotFree (KL N (rows ++ [r]))) N d') : d ≤ d' ∧ d' ≤ d + 1 := by
  have hK := kl_lin N rows hb
  have key : ∀ c c', c < c' → Free (KL N rows) c → ¬ Free (KL N (rows ++ [r])) c → Free (KL N rows) c' → Free (KL N (rows ++ [r])) c' := by
    rintro c c' hcc ⟨v, hv, kv, hne, htop⟩ hnot ⟨v', hv', kv', hne', htop'⟩
    have h1 : dot N (co r) v ≠ 0 := fun e => hnot ⟨v, hv, (kl_snoc N rows r v).2 ⟨kv, e⟩, hne, htop⟩
    obtain ⟨q, hq⟩ : ∃ q, quo (dot N (co r) v') (dot N (co r) v) = q := ⟨_, rfl⟩
    have hq256 : q < 256 := by rw [← hq]; exact Gf.quo_lt _ _
    refine ⟨fun k => v' k ^^^ mul q (v k), fun k => Gf.xor_lt _ _ (hv' k) (Gf.mul_lt _ _), (kl_snoc N rows r _).2 ⟨hK.add _ _ hv' (fun k => Gf.mul_lt q (v k)) kv' (hK.smul q v hq256 hv kv), ?_⟩, ?_, fun j hj => ?_⟩
    · rw [dot_add N (co r) v' _ hr hv' (fun k => Gf.mul_lt q (v k)), dot_smul N q (co r) v hq256 hr hv, ← hq, Gf.quo_mul _ _ (dot_lt _ _ _) (dot_lt _ _ _) h1, Nat.xor_self]
    · show v' c' ^^^ mul q (v c') ≠ 0
      rw [htop c' hcc, Gf.mul_zero, Nat.xor_zero]
      exact hne'
    · show v' j ^^^ mul q (v j) = 0
      rw [htop' j hj, htop j (by omega), Gf.mul_zero]
      rfl
  constructor
  · refine cnt_sub (fun c _ hn => ?_) h h'
    intro hf
    apply hn
    obtain ⟨v, hv, kv, rest⟩ := hf
    exact ⟨v, hv, ((kl_snoc N rows r v).1 kv).1, rest⟩
  · refine cnt_more (fun c c' _ _ h1 h2 h3 h4 => ?_) h h'
    have f1 : Free (KL N rows) c := Classical.byContradiction fun e => h2 e
    have f2 : Free (KL N rows) c' := Classical.byContradiction fun e => h4 e
    rcases Nat.lt_trichotomy c c' with hlt | e | hgt
    · exact absurd (key c c' hlt f1 h1 f2) h3
    · exact e
    · exact absurd (key c' c hgt f2 h3 f1) h1
theorem none_rank {N d : Nat} (h : Cnt (NotFree (KL N [])) N d) : d = 0 := by
  have hf : ∀ c, Free (KL N []) c := fun c => ⟨fun k => if k = c then 1 else 0, fun k => by show (if k = c then 1 else 0) < 256; split <;> omega, fun r hr => absurd hr (by simp), by simp, fun j hj => if_neg (by omega)⟩
  have hz : ∀ M e, Cnt (NotFree (KL N [])) M e → e = 0 := by
    intro M
    induction M with
    | zero => intro e he; exact he
    | succ M ih =>
      intro e he
      rcases he with ⟨hp, _⟩ | ⟨_, he⟩
      · exact absurd (hf M) hp
      · exact ih e he
  exact hz N d h
theorem kl_mem {N : Nat} {rows rows' : List (List Nat)} (h : ∀ r, r ∈ rows ↔ r ∈ rows') : Alike (KL N rows) (KL N rows') := fun _ _ => ⟨fun k r hr => k r ((h r).2 hr), fun k r hr => k r ((h r).1 hr)⟩
theorem rank_le {N : Nat} : ∀ (rows : List (List Nat)), Bytes rows → ∀ d, Cnt (NotFree (KL N rows)) N d → d ≤ rows.length
  | [], _, d, h => by rw [none_rank h]; exact Nat.zero_le _
  | r :: rows, hb, d, h => by
    obtain ⟨e, he⟩ := cnt_is (NotFree (KL N rows)) N
    obtain ⟨d', hd'⟩ := cnt_is (NotFree (KL N (rows ++ [r]))) N
    have hb' : Bytes rows := fun s hs => hb s (List.mem_cons_of_mem _ hs)
    have h1 := (snoc_rank hb' (hb r (by simp)) he hd').2
    have h2 := rank_le rows hb' e he
    have h3 : d = d' := rank_alike (kl_mem fun s => by simp [or_comm]) h hd'
    rw [List.length_cons]
    omega
end Lin

/-
  What layer 8's functions are to answer: numbers as varints, and what is read of bytes. Conditions: none; no function is named here.
-/
namespace Go.Proofs.Ytnfgokbopndmgaa
open Go.RowKit
open Pol (co Sm)

/-- What is read, and what is left; or an error. -/
inductive Rs (α : Type) where
  | ok (a : α) (rest : List Nat)
  | er (e : Nat)
  deriving DecidableEq
/-- A number's bytes. -/
def vn (n : Nat) : List Nat := if n < 128 then [n] else (n % 128 + 128) :: vn (n / 128)
termination_by n
decreasing_by omega
/-- A number is read: i bytes were, that come to n. -/
def rv (most : Nat) : Nat → Nat → List Nat → Rs Nat
  | _, _, [] => .er 2
  | i, n, b :: l => if i = 9 ∧ 1 < b ∨ 0 < i ∧ b = 0 then .er 14 else if b < 128 then (if most < n + b % 128 * 128 ^ i then .er 10 else .ok (n + b % 128 * 128 ^ i) l) else rv most (i + 1) (n + b % 128 * 128 ^ i) l
def rdN (most : Nat) (l : List Nat) : Rs Nat := rv most 0 0 l
/-- So many bytes are read. -/
def rdB (n : Nat) (l : List Nat) : Rs (List Nat) := if l.length < n then .er 2 else .ok (l.take n) (l.drop n)
def Rs.bind {α β : Type} (r : Rs α) (f : α → List Nat → Rs β) : Rs β := match r with | .ok a l => f a l | .er e => .er e
def rdT (longest : Nat) (l : List Nat) : Rs (List Nat) := (rdN longest l).bind rdB
def vt (t : List Nat) : List Nat := vn t.length ++ t

theorem vn_lt {n : Nat} (h : n < 128) : vn n = [n] := by rw [vn, if_pos h]
theorem vn_ge {n : Nat} (h : ¬ n < 128) : vn n = (n % 128 + 128) :: vn (n / 128) := by rw [vn, if_neg h]
theorem vn_sm : ∀ n, Sm (vn n) := fun n => by
  induction n using Nat.strongRecOn with
  | _ n ih =>
    by_cases h : n < 128
    · rw [vn_lt h]; exact Sm.cons (by omega) Sm.nil
    · rw [vn_ge h]; exact Sm.cons (by omega) (ih _ (by omega))
theorem vn_pos : ∀ n, 0 < (vn n).length := fun n => by
  by_cases h : n < 128
  · rw [vn_lt h]; simp
  · rw [vn_ge h]; simp
/-- A number of i bytes more is no more than ten bytes long. -/
theorem vn_len : ∀ (k n : Nat), n < 128 ^ (k + 1) → (vn n).length ≤ k + 1
  | 0, n, h => by rw [vn_lt (by omega)]; simp
  | k + 1, n, h => by
    by_cases hn : n < 128
    · rw [vn_lt hn]; simp
    · rw [vn_ge hn, List.length_cons]
      have := vn_len k (n / 128) (by rw [Nat.pow_succ] at h; omega)
      omega
theorem vn_zero : ∀ n l, vn n ≠ 0 :: l ∨ (n = 0 ∧ l = []) := fun n l => by
  by_cases h : n < 128
  · rw [vn_lt h]
    by_cases h0 : n = 0
    · by_cases hl : l = []
      · exact .inr ⟨h0, hl⟩
      · left; intro e; injection e with _ e; exact hl e.symm
    · left; intro e; injection e with e _; exact h0 e
  · rw [vn_ge h]
    left; intro e; injection e with e _; omega

/-- What was laid is read. -/
theorem rv_vn (most : Nat) (rest : List Nat) : ∀ (k i n acc : Nat), i + k = 9 → (i = 0 ∨ 0 < n) → n < 2 ^ (64 - 7 * i) → acc + n * 128 ^ i ≤ most ∨ most < acc + n * 128 ^ i →
    rv most i acc (vn n ++ rest) = if most < acc + n * 128 ^ i then .er 10 else .ok (acc + n * 128 ^ i) rest
  | k, i, n, acc, hik, h0, hn, _ => by
    by_cases h : n < 128
    · rw [vn_lt h, List.singleton_append, rv, if_neg, if_pos h, Nat.mod_eq_of_lt h]
      rintro (⟨h9, h1⟩ | ⟨hi, hz⟩)
      · subst h9
        have : n < 2 ^ 1 := hn
        omega
      · omega
    · have hi : i ≠ 9 := fun e => by
        subst e
        have : n < 2 ^ 1 := hn
        omega
      rw [vn_ge h, List.cons_append, rv, if_neg (by omega), if_neg (by omega)]
      have e1 : acc + (n % 128 + 128) % 128 * 128 ^ i + n / 128 * 128 ^ (i + 1) = acc + n * 128 ^ i := by
        rw [Nat.add_mod_right, Nat.mod_mod, Nat.pow_succ, Nat.add_assoc]
        congr 1
        rw [Nat.mul_comm (128 ^ i) 128, ← Nat.mul_assoc, ← Nat.add_mul]
        congr 1
        omega
      match k, hik with
      | 0, hik => omega
      | k + 1, hik =>
        rw [rv_vn most rest k (i + 1) (n / 128) _ (by omega) (.inr (by omega)) (by
          have e : 64 - 7 * i = (64 - 7 * (i + 1)) + 7 := by omega
          rw [e, Nat.pow_add] at hn
          omega) (by omega), e1]
theorem rdN_vn (most n : Nat) (rest : List Nat) (h : n < 2 ^ 64) : rdN most (vn n ++ rest) = if most < n then .er 10 else .ok n rest := by
  unfold rdN
  rw [rv_vn most rest 9 0 n 0 (by omega) (.inl rfl) h (by omega), Nat.pow_zero, Nat.mul_one, Nat.zero_add]
/-- What is read was laid so. -/
theorem sm_head {b : Nat} {l : List Nat} (h : Sm (b :: l)) : b < 256 := by have := h 0; rwa [Pol.co_zero] at this
theorem sm_tail {b : Nat} {l : List Nat} (h : Sm (b :: l)) : Sm l := fun i => by have := h (i + 1); rwa [Pol.co_succ] at this
theorem vn_rv (most : Nat) : ∀ (l : List Nat) (i acc n : Nat) (rest : List Nat), Sm l → i ≤ 9 → rv most i acc l = .ok n rest → ∃ m, l = vn m ++ rest ∧ n = acc + m * 128 ^ i ∧ m < 2 ^ (64 - 7 * i) ∧ (i = 0 ∨ 0 < m) ∧ n ≤ most
  | [], _, _, _, _, _, _, h => by rw [rv] at h; cases h
  | b :: l, i, acc, n, rest, hs, hi, h => by
    rw [rv] at h
    split at h
    · cases h
    · rename_i hk
      split at h
      · rename_i hb
        split at h
        · cases h
        · rename_i hm
          injection h with h1 h2
          subst h1; subst h2
          refine ⟨b, by rw [vn_lt hb]; rfl, by rw [Nat.mod_eq_of_lt hb], ?_, by omega, by omega⟩
          rcases Nat.lt_or_ge i 9 with h9 | h9
          · exact Nat.lt_of_lt_of_le hb (by
              have : 2 ^ 7 ≤ 2 ^ (64 - 7 * i) := Nat.pow_le_pow_right (by omega) (by omega)
              exact this)
          · obtain rfl : i = 9 := by omega
            show b < 2 ^ 1
            omega
      · rename_i hb
        have hi9 : i ≠ 9 := fun e => by omega
        obtain ⟨m, rfl, rfl, hm, hpos, hle⟩ := vn_rv most l (i + 1) _ n rest (sm_tail hs) (by omega) h
        have hm0 : 0 < m := by omega
        have hb2 := sm_head hs
        refine ⟨b % 128 + m * 128, ?_, ?_, ?_, .inr (by omega), hle⟩
        · rw [vn_ge (n := b % 128 + m * 128) (by omega), show (b % 128 + m * 128) / 128 = m from by omega, show (b % 128 + m * 128) % 128 + 128 = b from by omega]
          rfl
        · rw [Nat.pow_succ, Nat.add_mul, Nat.add_assoc]
          congr 1
          rw [Nat.mul_comm (128 ^ i) 128, ← Nat.mul_assoc]
        · have e : 64 - 7 * i = (64 - 7 * (i + 1)) + 7 := by omega
          rw [e, Nat.pow_add]
          omega
theorem vn_rdN {most n : Nat} {l rest : List Nat} (hs : Sm l) (h : rdN most l = .ok n rest) : l = vn n ++ rest ∧ n < 2 ^ 64 ∧ n ≤ most := by
  obtain ⟨m, h1, h2, h3, _, h4⟩ := vn_rv most l 0 0 n rest hs (by omega) h
  rw [Nat.pow_zero, Nat.mul_one, Nat.zero_add] at h2
  subst h2
  exact ⟨h1, h3, h4⟩
/-- What was laid, and cut short, is too short. -/
theorem rv_cut (most : Nat) : ∀ (k i n acc c : Nat), i + k = 9 → (i = 0 ∨ 0 < n) → n < 2 ^ (64 - 7 * i) → c < (vn n).length → rv most i acc ((vn n).take c) = .er 2
  | k, i, n, acc, 0, _, _, _, _ => by rw [List.take_zero, rv]
  | k, i, n, acc, c + 1, hik, h0, hn, hc => by
    by_cases h : n < 128
    · rw [vn_lt h] at hc
      simp at hc
    · have hi : i ≠ 9 := fun e => by
        subst e
        have : n < 2 ^ 1 := hn
        omega
      rw [vn_ge h, List.length_cons] at hc
      rw [vn_ge h, List.take_succ_cons, rv, if_neg (by omega), if_neg (by omega)]
      match k, hik with
      | 0, hik => omega
      | k + 1, hik =>
        exact rv_cut most k (i + 1) (n / 128) _ c (by omega) (.inr (by omega)) (by
          have e : 64 - 7 * i = (64 - 7 * (i + 1)) + 7 := by omega
          rw [e, Nat.pow_add] at hn
          omega) (by omega)
theorem rdN_cut (most n c : Nat) (h : n < 2 ^ 64) (hc : c < (vn n).length) : rdN most ((vn n).take c) = .er 2 := rv_cut most 9 0 n 0 c (by omega) (.inl rfl) h hc
theorem rdT_vt (longest : Nat) (t rest : List Nat) (h : t.length < 2 ^ 64) : rdT longest (vt t ++ rest) = if longest < t.length then .er 10 else .ok t rest := by
  unfold rdT vt
  rw [List.append_assoc, rdN_vn _ _ _ h]
  split
  · rfl
  · unfold Rs.bind rdB
    simp only
    rw [if_neg (by rw [List.length_append]; omega), List.take_left, List.drop_left]
theorem vt_rdT {longest : Nat} {l t rest : List Nat} (hs : Sm l) (h : rdT longest l = .ok t rest) : l = vt t ++ rest ∧ t.length ≤ longest ∧ t.length < 2 ^ 64 := by
  unfold rdT at h
  cases hn : rdN longest l with
  | er e => rw [hn] at h; cases h
  | ok n r =>
    rw [hn] at h
    unfold Rs.bind rdB at h
    simp only at h
    split at h
    · cases h
    · rename_i hl
      injection h with h1 h2
      obtain ⟨e1, e2, e3⟩ := vn_rdN hs hn
      have hlen : t.length = n := by rw [← h1, List.length_take]; omega
      refine ⟨?_, by omega, by omega⟩
      unfold vt
      rw [hlen, e1, List.append_assoc, ← h1, ← h2, List.take_append_drop]
theorem rdB_ok {n : Nat} {l t rest : List Nat} (h : rdB n l = .ok t rest) : l = t ++ rest ∧ t.length = n := by
  unfold rdB at h
  split at h
  · cases h
  · injection h with h1 h2
    exact ⟨by rw [← h1, ← h2, List.take_append_drop], by rw [← h1, List.length_take]; omega⟩
theorem rdB_app (t rest : List Nat) : rdB t.length (t ++ rest) = .ok t rest := by
  unfold rdB
  rw [if_neg (by rw [List.length_append]; omega), List.take_left, List.drop_left]
/-- An error is not 0. -/
theorem rv_er (most : Nat) : ∀ (l : List Nat) (i n e : Nat), rv most i n l = .er e → 0 < e ∧ e < 17
  | [], _, _, _, h => by rw [rv] at h; injection h with h; omega
  | b :: l, i, n, e, h => by
    rw [rv] at h
    split at h
    · injection h with h; omega
    · split at h
      · split at h
        · injection h with h; omega
        · cases h
      · exact rv_er most l _ _ e h
theorem rdN_er {most e : Nat} {l : List Nat} (h : rdN most l = .er e) : 0 < e ∧ e < 17 := rv_er most l 0 0 e h
theorem rdB_er {n e : Nat} {l : List Nat} (h : rdB n l = .er e) : 0 < e ∧ e < 17 := by
  unfold rdB at h
  split at h
  · injection h with h; omega
  · cases h
theorem rdT_er {m e : Nat} {l : List Nat} (h : rdT m l = .er e) : 0 < e ∧ e < 17 := by
  unfold rdT at h
  cases hr : rdN m l with
  | er e' =>
    rw [hr] at h
    injection h with h
    rw [← h]
    exact rdN_er hr
  | ok n r =>
    rw [hr] at h
    exact rdB_er h
theorem sm_app {a b : List Nat} (ha : Sm a) (hb : Sm b) : Sm (a ++ b) := Pol.co_lt_of fun z hz => by
  rcases List.mem_append.1 hz with h | h
  · exact ha.mem z h
  · exact hb.mem z h
theorem sm_split {a b : List Nat} (h : Sm (a ++ b)) : Sm a ∧ Sm b := ⟨Pol.co_lt_of fun z hz => h.mem z (List.mem_append.2 (.inl hz)), Pol.co_lt_of fun z hz => h.mem z (List.mem_append.2 (.inr hz))⟩
theorem vt_sm {t : List Nat} (h : Sm t) : Sm (vt t) := sm_app (vn_sm _) h
theorem vn_ten {n : Nat} (h : n < 18446744073709551616) : (vn n).length ≤ 10 := vn_len 9 n (by omega)
end Go.Proofs.Ytnfgokbopndmgaa

/-
  Orders in plain numbers: which can be, their bytes, what is read of bytes. Conditions: none; no function is named here.
-/
namespace Go.Proofs.Ytnfgokbopndmgaa
open Go.RowKit
open Pol (co Sm)

/-- An order: its kind, whom it is for, how much, the memo. -/
structure Od where
  k : Int
  t : Int
  a : Nat
  m : List Nat
def Od.zero : Od := ⟨0, 0, 0, []⟩
def Od.right (o : Od) : Prop := o.m.length ≤ 16 ∧ ((o.k = 1 ∧ 0 ≤ o.t ∧ o.t < 6) ∨ (o.k = 2 ∧ o.t = 0 ∧ o.a = 0))
instance (o : Od) : Decidable o.right := inferInstanceAs (Decidable (_ ∧ _))
def Od.enc (o : Od) : List Nat := vn o.k.toNat ++ vn o.t.toNat ++ vn o.a ++ vt o.m
/-- The bytes, or none. -/
def Od.bytes (o : Od) : List Nat := if o.right then o.enc else []
def Od.code (o : Od) : Nat := if o.right then 0 else 1
/-- What is read, and what is left. -/
def rdO (b : List Nat) : Rs Od := (rdN 2 b).bind fun k b1 => (rdN 5 b1).bind fun t b2 => (rdN 18446744073709551615 b2).bind fun a b3 => (rdT 16 b3).bind fun m b4 => .ok ⟨(k : Int), (t : Int), a, m⟩ b4
def dec14 (b : List Nat) : Nat × Od := match rdO b with
  | .er n => (n, Od.zero)
  | .ok o rest => if rest ≠ [] then (3, Od.zero) else if o.right then (0, o) else (14, Od.zero)
theorem Od.right_bounds {o : Od} (h : o.right) : 0 ≤ o.k ∧ o.k ≤ 2 ∧ 0 ≤ o.t ∧ o.t ≤ 5 ∧ o.m.length ≤ 16 := by
  obtain ⟨h1, h2 | h2⟩ := h
  · omega
  · omega
theorem rdN_of {m n : Nat} (rest : List Nat) (h : n < 18446744073709551616) (hm : n ≤ m) : rdN m (vn n ++ rest) = .ok n rest := by
  rw [rdN_vn m n rest (by omega), if_neg (by omega)]
theorem rdO_enc {o : Od} (h : o.right) (ha : o.a < 18446744073709551616) : rdO o.enc = .ok o [] := by
  obtain ⟨h1, h2, h3, h4, h5⟩ := Od.right_bounds h
  unfold rdO Od.enc
  rw [List.append_assoc, List.append_assoc, rdN_of _ (by omega) (by omega)]
  show ((rdN 5 _).bind _ : Rs Od) = _
  rw [rdN_of _ (by omega) (by omega)]
  show ((rdN _ _).bind _ : Rs Od) = _
  rw [rdN_of _ ha (by omega)]
  show ((rdT _ _).bind _ : Rs Od) = _
  have e := rdT_vt 16 o.m [] (by omega)
  rw [List.append_nil, if_neg (by omega)] at e
  rw [e]
  show (Rs.ok (⟨((o.k.toNat : Nat) : Int), ((o.t.toNat : Nat) : Int), o.a, o.m⟩ : Od) [] : Rs Od) = _
  rw [Int.toNat_of_nonneg h1, Int.toNat_of_nonneg h3]
theorem dec_enc {o : Od} (h : o.right) (ha : o.a < 18446744073709551616) : dec14 o.enc = (0, o) := by
  unfold dec14
  rw [rdO_enc h ha]
  show (if ([] : List Nat) ≠ [] then _ else _) = _
  rw [if_neg (by simp), if_pos h]
/-- What is read, its parts one by one. -/
theorem rdO_ok {b rest : List Nat} {o : Od} (hs : Sm b) (h : rdO b = .ok o rest) : b = o.enc ++ rest ∧ 0 ≤ o.k ∧ 0 ≤ o.t ∧ o.a < 18446744073709551616 := by
  unfold rdO at h
  cases h1 : rdN 2 b with
  | er n => rw [h1] at h; cases h
  | ok k b1 =>
    rw [h1] at h
    obtain ⟨e1, f1, _⟩ := vn_rdN hs h1
    have hs1 : Sm b1 := (sm_split (e1 ▸ hs)).2
    change ((rdN 5 b1).bind _ : Rs Od) = _ at h
    cases h2 : rdN 5 b1 with
    | er n => rw [h2] at h; cases h
    | ok t b2 =>
      rw [h2] at h
      obtain ⟨e2, f2, _⟩ := vn_rdN hs1 h2
      have hs2 : Sm b2 := (sm_split (e2 ▸ hs1)).2
      change ((rdN 18446744073709551615 b2).bind _ : Rs Od) = _ at h
      cases h3 : rdN 18446744073709551615 b2 with
      | er n => rw [h3] at h; cases h
      | ok a b3 =>
        rw [h3] at h
        obtain ⟨e3, f3, g3⟩ := vn_rdN hs2 h3
        have hs3 : Sm b3 := (sm_split (e3 ▸ hs2)).2
        change ((rdT 16 b3).bind _ : Rs Od) = _ at h
        cases h4 : rdT 16 b3 with
        | er n => rw [h4] at h; cases h
        | ok m b4 =>
          rw [h4] at h
          obtain ⟨e4, _, _⟩ := vt_rdT hs3 h4
          have h' : (Rs.ok (⟨(k : Int), (t : Int), a, m⟩ : Od) b4 : Rs Od) = .ok o rest := h
          injection h' with h5 h6
          subst h5 h6
          refine ⟨?_, by dsimp only; omega, by dsimp only; omega, by dsimp only; omega⟩
          unfold Od.enc
          dsimp only
          rw [Int.toNat_natCast, Int.toNat_natCast, e1, e2, e3, e4]
          simp only [List.append_assoc]
theorem dec_ok {b : List Nat} (hs : Sm b) (h : (dec14 b).1 = 0) : (dec14 b).2.right ∧ (dec14 b).2.enc = b ∧ (dec14 b).2.a < 18446744073709551616 := by
  unfold dec14 at h ⊢
  cases h1 : rdO b with
  | er n =>
    rw [h1] at h
    exfalso
    have hn : n = 0 := h
    have : ∀ {α : Type} {r : Rs α} {f : α → List Nat → Rs Od} {n : Nat}, (∀ e, r = .er e → 0 < e) → (∀ a l, r = .ok a l → ∀ e, f a l = .er e → 0 < e) → r.bind f = .er n → 0 < n := fun {α} {r} {f} {n} h1 h2 h => by
      cases r with
      | er e => exact h1 _ (by injection h with h; rw [h])
      | ok a l => exact h2 a l rfl n h
    have h0 := this (fun e he => (rdN_er he).1) (fun k b1 _ e he => this (fun e he => (rdN_er he).1) (fun t b2 _ e he => this (fun e he => (rdN_er he).1) (fun a b3 _ e he => this (fun e he => (rdT_er he).1) (fun m b4 _ e he => by cases he) he) he) he) h1
    omega
  | ok o rest =>
    rw [h1] at h
    obtain ⟨e1, e2, e3, e4⟩ := rdO_ok hs h1
    dsimp only at h ⊢
    by_cases hr : rest = []
    · rw [if_neg (by simpa using hr)] at h ⊢
      by_cases ho : o.right
      · rw [if_pos ho] at h ⊢
        refine ⟨ho, ?_, e4⟩
        rw [e1, hr, List.append_nil]
      · rw [if_neg ho] at h
        cases h
    · rw [if_pos hr] at h
      cases h
theorem Od.enc_len {o : Od} (h : o.right) (ha : o.a < 18446744073709551616) : 4 ≤ o.enc.length ∧ o.enc.length ≤ 29 ∧ o.m.length < o.enc.length := by
  obtain ⟨h1, h2, h3, h4, h5⟩ := Od.right_bounds h
  have a1 := vn_pos o.k.toNat
  have a2 := vn_pos o.t.toNat
  have a3 := vn_pos o.a
  have a4 := vn_ten ha
  have b1 : (vn o.k.toNat).length = 1 := by rw [vn_lt (by omega)]; rfl
  have b2 : (vn o.t.toNat).length = 1 := by rw [vn_lt (by omega)]; rfl
  have b3 : (vn o.m.length).length = 1 := by rw [vn_lt (by omega)]; rfl
  unfold Od.enc vt
  simp only [List.length_append]
  omega
theorem Od.enc_sm {o : Od} (h : Sm o.m) : Sm o.enc := by
  unfold Od.enc
  exact sm_app (sm_app (sm_app (vn_sm _) (vn_sm _)) (vn_sm _)) (vt_sm h)
theorem Od.bytes_sm {o : Od} (h : Sm o.m) : Sm o.bytes := by
  unfold Od.bytes
  split
  · exact Od.enc_sm h
  · exact Sm.nil
theorem Od.bytes_len {o : Od} (ha : o.a < 18446744073709551616) : o.bytes.length ≤ 29 := by
  unfold Od.bytes
  split
  · rename_i h; exact (Od.enc_len h ha).2.1
  · simp
/-- Two orders that can be have the same bytes just if they are one. -/
theorem Od.enc_one {o p : Od} (ho : o.right) (hp : p.right) (ha : o.a < 18446744073709551616) (hb : p.a < 18446744073709551616) : o.enc = p.enc ↔ o = p := by
  constructor
  · intro h
    have h1 := rdO_enc ho ha
    rw [h, rdO_enc hp hb] at h1
    injection h1 with h1
    exact h1.symm
  · intro h; rw [h]
theorem dec_bounds {b : List Nat} (hs : Sm b) : (dec14 b).2.a < 18446744073709551616 ∧ (dec14 b).2.m.length ≤ 16 ∧ Sm (dec14 b).2.m := by
  by_cases h : (dec14 b).1 = 0
  · obtain ⟨h1, h2, h3⟩ := dec_ok hs h
    refine ⟨h3, h1.1, ?_⟩
    rw [← h2] at hs
    unfold Od.enc vt at hs
    exact (sm_split (sm_split hs).2).2
  · have hz : (dec14 b).2 = Od.zero := by
      unfold dec14 at h ⊢
      cases h1 : rdO b with
      | er n => rfl
      | ok o rest =>
        rw [h1] at h
        dsimp only at h ⊢
        split
        · rfl
        · rename_i hr
          rw [if_neg hr] at h
          split
          · rename_i ho; rw [if_pos ho] at h; exact absurd rfl h
          · rfl
    rw [hz]
    exact ⟨by decide, by decide, Sm.nil⟩
end Go.Proofs.Ytnfgokbopndmgaa

/-
  Which orders the document's own Right of layer 14 takes. Conditions: none.
-/
namespace Go.Proofs.Ytnfgokbopndmgaa
open Go.RowKit
open Pol (co Sm)

def RightN (k t : Int) (a n : Nat) : Prop := n ≤ 16 ∧ ((k = 1 ∧ 0 ≤ t ∧ t < 6) ∨ (k = 2 ∧ t = 0 ∧ a = 0))
instance (k t : Int) (a n : Nat) : Decidable (RightN k t a n) := inferInstanceAs (Decidable (_ ∧ _))
set_option maxHeartbeats 1600000 in
theorem ref14_right (k t : Int) (a n c : Nat) (A : Option Addr) (w : World) : Calls Try.prog 27 #[.agg #[.int .i64 k, .int .i64 t, .int .u64 (a : Int), .slice A n c]] w (Tells (.bool (decide (RightN k t a n))) w) := by
  by_cases h0 : 16 < n
  · have d0 : decide ((n : Int) > 16) = true := decide_eq_true (by omega)
    have d0' : decide (16 < (n : Int)) = true := decide_eq_true (by omega)
    rw [show decide (RightN k t a n) = false from decide_eq_false (by unfold RightN; omega)]
    go_enter Try.func27, Try.ntmps27
    go_wp2
    go_ret
    exact ⟨rfl, (Ext.refl _).alloc _⟩
  have d0 : decide ((n : Int) > 16) = false := decide_eq_false (by omega)
  have d0' : decide (16 < (n : Int)) = false := decide_eq_false (by omega)
  by_cases h1 : k = 1
  · by_cases h2 : 0 ≤ t
    · have d2 : decide (t ≥ 0) = true := decide_eq_true (by omega)
      have d2' : decide (0 ≤ t) = true := decide_eq_true (by omega)
      by_cases h3 : t < 6
      · have d3 : decide (t < 6) = true := decide_eq_true h3
        rw [show decide (RightN k t a n) = true from decide_eq_true (by unfold RightN; omega)]
        subst h1
        go_enter Try.func27, Try.ntmps27
        go_wp2
        go_ret
        exact ⟨rfl, (Ext.refl _).alloc _⟩
      · have d3 : decide (t < 6) = false := decide_eq_false h3
        rw [show decide (RightN k t a n) = false from decide_eq_false (by unfold RightN; omega)]
        subst h1
        go_enter Try.func27, Try.ntmps27
        go_wp2
        go_ret
        exact ⟨rfl, (Ext.refl _).alloc _⟩
    · have d2 : decide (t ≥ 0) = false := decide_eq_false (by omega)
      have d2' : decide (0 ≤ t) = false := decide_eq_false (by omega)
      rw [show decide (RightN k t a n) = false from decide_eq_false (by unfold RightN; omega)]
      subst h1
      go_enter Try.func27, Try.ntmps27
      go_wp2
      go_ret
      exact ⟨rfl, (Ext.refl _).alloc _⟩
  have d1 : (k == 1) = false := by simp; omega
  have d1' : decide (k = 1) = false := decide_eq_false h1
  by_cases h4 : k = 2
  · by_cases h5 : t = 0
    · by_cases h6 : a = 0
      · have HD := Lib.hid (show decide (RightN k t a n) = true from decide_eq_true (by unfold RightN; omega))
        rw [HD.out]
        subst h4 h5 h6
        go_enter Try.func27, Try.ntmps27
        go_wp2
        go_ret
        exact ⟨rfl, (Ext.refl _).alloc _⟩
      · have d6 : ((a : Int) == 0) = false := by simp; omega
        have d6' : decide ((a : Int) = 0) = false := decide_eq_false (by omega)
        have d6'' : decide (a = 0) = false := decide_eq_false h6
        have HD := Lib.hid (show decide (RightN k t a n) = false from decide_eq_false (by unfold RightN; omega))
        rw [HD.out]
        subst h4 h5
        go_enter Try.func27, Try.ntmps27
        go_wp2
        go_ret
        exact ⟨rfl, (Ext.refl _).alloc _⟩
    · have d5 : (t == 0) = false := by simp; omega
      have d5' : decide (t = 0) = false := decide_eq_false h5
      have HD := Lib.hid (show decide (RightN k t a n) = false from decide_eq_false (by unfold RightN; omega))
      rw [HD.out]
      subst h4
      go_enter Try.func27, Try.ntmps27
      go_wp2
      go_ret
      exact ⟨rfl, (Ext.refl _).alloc _⟩
  · have d4 : (k == 2) = false := by simp; omega
    have d4' : decide (k = 2) = false := decide_eq_false h4
    rw [show decide (RightN k t a n) = false from decide_eq_false (by unfold RightN; omega)]
    go_enter Try.func27, Try.ntmps27
    go_wp2
    go_ret
    exact ⟨rfl, (Ext.refl _).alloc _⟩
end Go.Proofs.Ytnfgokbopndmgaa

/-
  Slices of bytes of a call's own that are handed back. Conditions: none.
-/
namespace Go.Proofs.Ytnfgokbopndmgaa
open Go.RowKit
open Pol (co Sm)

theorem mine_ext {w w' : World} {base : Nat} {v : Value} {l : List Nat} (h : Mine w base v l) (hx : Ext w w') : Mine w' base v l :=
  World.ownsRow.kept h (row := none) ⟨hx.below.os, hx.below.tape, hx.below.output, hx.below.size, fun k hk _ => hx.below.block k hk⟩ (by
    cases hb : v.ownBlock with
    | none => exact .inl rfl
    | some k => exact .inr (by simp))
theorem Mine.down {w : World} {base base' : Nat} {v : Value} {l : List Nat} (h : Mine w base v l) (hb : base' ≤ base) : Mine w base' v l :=
  ⟨h.1, h.2.imp id fun ⟨g, cap, cur, h1, h2, h3⟩ => ⟨g, cap, cur, h1, Nat.le_trans hb h2, h3⟩⟩
theorem Mine.nil (w : World) (base : Nat) : Mine w base (.slice none 0 0) [] := World.ownsRow_nil w base _ _
theorem Mine.block {w : World} {base : Nat} {v : Value} {l : List Nat} (h : Mine w base v l) : ∀ k, v.ownBlock = some k → base ≤ k ∧ k < w.heap.size := fun k hk => World.ownsRow.lt h k hk
/-- A list, in a block that was laid since. -/
def GivesM (l : List Nat) (w : World) (e : Ending) (w' : World) : Prop := ∃ v, e = .returned v ∧ Mine w' w.heap.size v l ∧ Sm l ∧ Ext w w'
theorem gives_m {w w' : World} {v : Value} {l m : List Nat} (hm : Mine w' w.heap.size v l) (hl : l = m) (hs : Sm m) (hx : Ext w w') : GivesM m w (.returned v) w' := by
  subst hl
  exact ⟨v, rfl, hm, hs, hx⟩
theorem GivesM.gives {l : List Nat} {w : World} {e : Ending} {w' : World} (h : GivesM l w e w') : Gives l w e w' := by
  obtain ⟨v, rfl, hm, hs, hx⟩ := h
  exact gives_of hm rfl hs hx
theorem GivesM.after {l : List Nat} {w w1 : World} {e : Ending} {w' : World} (h : GivesM l w1 e w') (hx : Ext w w1) : GivesM l w e w' := by
  obtain ⟨v, rfl, hm, hs, hx'⟩ := h
  exact ⟨v, rfl, hm.down hx.size, hs, hx.trans hx'⟩
end Go.Proofs.Ytnfgokbopndmgaa

/-
  What the document's own Number and Text of layer 8 do. Conditions: no more than 2^20 bytes.
-/
namespace Go.Proofs.Ytnfgokbopndmgaa
open Go.RowKit
open Pol (co Sm)

/-- Bytes of a call's own. -/
def OwnE (l : List Nat) (w : World) (e : Ending) (w' : World) : Prop := ∃ v, e = .returned v ∧ Mine w' w.heap.size v l ∧ Ext w w'

set_option maxHeartbeats 1600000 in
set_option maxRecDepth 100000 in
theorem ref8_number (n : Nat) (w : World) (hn : n < 18446744073709551616) : Calls Try.prog 31 #[.int .u64 (n : Int)] w (OwnE (vn n) w) := by
  unfold OwnE
  have HSM := Lib.hid (vn_sm n)
  have HTEN := Lib.hid (vn_ten hn)
  have hn10 : n < 128 ^ (9 + 1) := by omega
  obtain ⟨V, hV⟩ : ∃ V, vn n = V := ⟨_, rfl⟩
  rw [hV] at HSM HTEN
  rw [hV]
  have HV := Lib.hid hV
  clear hV
  go_enter Try.func31, Try.ntmps31
  go_wp2
  go_loopg [0, 3] 9 (fun g s0 s3 wx => ∃ (m : Nat) (acc : List Nat) (B : Option Addr) (c : Nat), m < 128 ^ (g + 1) ∧ s0 = .int .u64 (m : Int) ∧ m < 18446744073709551616 ∧ acc ++ vn m = V ∧ s3 = .slice B acc.length c ∧ Mine wx w.heap.size (.slice B acc.length c) acc ∧ Ext w wx)
  case atStart => exact ⟨n, [], none, 0, hn10, rfl, hn, HV.out, rfl, Mine.nil _ _, Ext.refl _⟩
  case round =>
    obtain ⟨m, acc, B, c, hmg, rfl, hm64, hac, rfl, hmi, hx⟩ := hrel
    have HM := Lib.hid hmi
    have HX := Lib.hid hx
    have hlen : acc.length ≤ 10 := by have := HTEN.out; rw [← hac, List.length_append] at this; omega
    obtain ⟨la, hla⟩ : ∃ la, acc.length = la := ⟨_, rfl⟩
    have HLA := Lib.hid hla
    rw [hla] at HM hlen ⊢
    clear hmi hx hla
    by_cases h128 : m < 128
    · have d1 : decide (128 ≤ (m : Int)) = false := decide_eq_false (by omega)
      have e1 : IntKind.u8.wrap (m : Int) = (m : Int) := IntWalk.u8_in _ (by omega)
      have HAV := Lib.hid (show acc ++ [m] = V from by rw [← hac, vn_lt h128])
      have hm256 : m < 256 := by omega
      clear hac hmg
      go_wp2_with (at_builtin; refine wpList_append_rd rfl (.tmp 15) (.tmp 18) rfl w.heap.size _ acc [m] rfl (mine_ext HM.out ((Ext.refl _).alloc _)) (some ⟨wr.heap.size, 0, none⟩) 1 1 rfl rfl (rd_one wr m hm256) (by rw [HLA.out]; simp; omega) (by simp; have := HX.out.size; omega) ?_; intro v' w3 hown' hg' hat'; rw [HAV.out] at hown'; have hx3 := (HX.out.alloc (.cells #[.int .u8 (m : Int)] 5)).more hg' (fun r e => (HM.out.block r e).1); obtain ⟨Bv, cv, ev', hcv, _⟩ := hown'.slice HSM.out; subst ev'; have HO := Lib.hid hown'; have HX3 := Lib.hid hx3; clear hown' hg' hat' hx3)
      go_ret
      exact ⟨_, rfl, HO.out, HX3.out⟩
    · cases gk with
      | zero => omega
      | succ g =>
        have d1 : decide (128 ≤ (m : Int)) = true := decide_eq_true (by omega)
        obtain ⟨q, hq⟩ : ∃ q, m % 128 = q := ⟨_, rfl⟩
        obtain ⟨y, hy⟩ : ∃ y, q + 128 = y := ⟨_, rfl⟩
        obtain ⟨m2, hm2⟩ : ∃ m2, m / 128 = m2 := ⟨_, rfl⟩
        have e1 : (m : Int) % 128 = (q : Int) := by omega
        have e1' : (m : Int).tmod 128 = (q : Int) := by rw [Int.tmod_eq_emod_of_nonneg (by omega)]; exact e1
        have e2 : IntKind.u64.wrap (q : Int) = (q : Int) := by rw [IntKind.wrap_u64]; omega
        have e3 : IntKind.u64.wrap ((q : Int) + 128) = (y : Int) := by rw [IntKind.wrap_u64]; omega
        have e4 : IntKind.u8.wrap (y : Int) = (y : Int) := IntWalk.u8_in _ (by omega)
        have e5 : (m : Int) / 128 = (m2 : Int) := by omega
        have e5' : (m : Int).tdiv 128 = (m2 : Int) := by rw [Int.tdiv_eq_ediv_of_nonneg (by omega)]; exact e5
        have e6 : IntKind.u64.wrap (m2 : Int) = (m2 : Int) := by rw [IntKind.wrap_u64]; omega
        have hy256 : y < 256 := by omega
        have HAV := Lib.hid (show (acc ++ [y]) ++ vn m2 = V from by rw [← hac, vn_ge h128, List.append_assoc, hq, hy, hm2]; rfl)
        have HS9 := Lib.hid (show Sm (acc ++ [y]) from (sm_split (b := vn m2) (by rw [HAV.out]; exact HSM.out)).1)
        have HL9 := Lib.hid (show (acc ++ [y]).length = la + 1 by rw [List.length_append, HLA.out]; rfl)
        have hm2b : m2 < 128 ^ (g + 1) := by rw [← hm2]; rw [Nat.pow_succ] at hmg; omega
        have hm2c : m2 < 18446744073709551616 := by omega
        clear hac hq hy hm2 hmg
        go_wp2_with (at_builtin; refine wpList_append_rd rfl (.tmp 6) (.tmp 11) rfl w.heap.size _ acc [y] rfl (mine_ext HM.out ((Ext.refl _).alloc _)) (some ⟨wr.heap.size, 0, none⟩) 1 1 rfl rfl (rd_one wr y hy256) (by rw [HLA.out]; simp; omega) (by simp; have := HX.out.size; omega) ?_; intro v' w3 hown' hg' hat'; have hx3 := (HX.out.alloc (.cells #[.int .u8 (y : Int)] 5)).more hg' (fun r e => (HM.out.block r e).1); obtain ⟨Bv, cv, ev', hcv, _⟩ := hown'.slice HS9.out; rw [HL9.out] at ev'; subst ev'; have HO := Lib.hid hown'; have HX3 := Lib.hid hx3; clear hown' hg' hat' hx3)
        go_roundg g
        case measure => omega
        case rel => exact ⟨m2, acc ++ [y], Bv, cv, hm2b, rfl, hm2c, HAV.out, by rw [HL9.out], by rw [HL9.out]; exact HO.out, HX3.out⟩

set_option maxHeartbeats 1600000 in
theorem ref8_text (s : List Nat) (A : Option Addr) (ca : Nat) (w : World) (hr : Rd w A s) (hl : s.length ≤ 1048576) : Calls Try.prog 32 #[.slice A s.length ca] w (OwnE (vt s) w) := by
  have HN := Lib.hid (ref8_number s.length w (by omega))
  have HR := Lib.hid hr
  have HS := Lib.hid (vt_sm hr.1)
  have HSN := Lib.hid (vn_sm s.length)
  have HTEN := Lib.hid (vn_ten (n := s.length) (by omega))
  have HVT := Lib.hid (show vn s.length ++ s = vt s from rfl)
  unfold OwnE at *
  clear hr
  generalize hn : s.length = n at *
  have HL := Lib.hid hn
  clear hn
  have e1 : IntKind.u64.wrap (n : Int) = (n : Int) := by rw [IntKind.wrap_u64]; omega
  generalize vn n = V at *
  go_enter Try.func32, Try.ntmps32
  go_wp2_with fail
  refine HN.out.mono ?_
  rintro e w1 ⟨v, rfl, hm, hx⟩
  obtain ⟨B, c, ev, hc, _⟩ := hm.slice HSN.out
  subst ev
  have HM := Lib.hid hm
  have HX := Lib.hid hx
  clear hm hx
  obtain ⟨lv, hlv⟩ : ∃ lv, V.length = lv := ⟨_, rfl⟩
  have HLV := Lib.hid hlv
  rw [hlv] at HM hc HTEN ⊢
  clear hlv
  go_wp2_with (at_builtin; refine wpList_append_rd rfl (.tmp 6) (.tmp 7) rfl w.heap.size _ V s rfl HM.out A n ca rfl HL.out (HR.out.ext HX.out) (by rw [HLV.out, HL.out]; have := HTEN.out; omega) (by have := HX.out.size; omega) ?_; intro v' w3 hown' hg' hat'; rw [HVT.out] at hown'; have hx3 := HX.out.more hg' (fun r e => (HM.out.block r e).1); obtain ⟨Bv, cv, ev', hcv, _⟩ := hown'.slice HS.out; subst ev'; have HO := Lib.hid hown'; have HX3 := Lib.hid hx3; clear hown' hg' hat' hx3)
  go_ret
  exact ⟨_, rfl, HO.out, HX3.out⟩
end Go.Proofs.Ytnfgokbopndmgaa

/-
  Worlds that differ in some blocks alone. Conditions: none; no function is named here.
-/
namespace Go.Proofs.Ytnfgokbopndmgaa
open Go.RowKit

/-- What was there is as it was, but for the blocks of X. -/
structure Only (X : Nat → Prop) (w w' : World) : Prop where
  os : w'.os = w.os
  tape : w'.tape = w.tape
  output : w'.output = w.output
  size : w.heap.size ≤ w'.heap.size
  block : ∀ k, k < w.heap.size → ¬ X k → w'.heap[k]? = w.heap[k]?
theorem Only.refl (X : Nat → Prop) (w : World) : Only X w w := ⟨rfl, rfl, rfl, Nat.le_refl _, fun _ _ _ => rfl⟩
theorem Only.trans {X : Nat → Prop} {a b c : World} (h : Only X a b) (k : Only X b c) : Only X a c :=
  ⟨k.os.trans h.os, k.tape.trans h.tape, k.output.trans h.output, Nat.le_trans h.size k.size, fun i hi hx => (k.block i (Nat.lt_of_lt_of_le hi h.size) hx).trans (h.block i hi hx)⟩
theorem Only.of_grown {X : Nat → Prop} {w w' : World} {row : Option Nat} (h : w.grownBy w' row) (hr : ∀ k, row = some k → X k) : Only X w w' :=
  ⟨h.os, h.tape, h.output, h.size, fun k hk hx => h.block k hk (fun e => hx (hr k e.symm))⟩
theorem Only.of_ext {X : Nat → Prop} {w w' : World} (h : Ext w w') : Only X w w' := ⟨h.below.os, h.below.tape, h.below.output, h.below.size, fun k hk _ => h.below.block k hk⟩
theorem Only.drewN {X : Nat → Prop} {a w : World} (h : Only X a w) (n : Nat) : Only X a (w.drewN n) := ⟨h.os, h.tape, h.output, h.size, h.block⟩
theorem Only.mono {X Y : Nat → Prop} {w w' : World} (h : Only X w w') (hxy : ∀ k, k < w.heap.size → X k → Y k) : Only Y w w' := ⟨h.os, h.tape, h.output, h.size, fun k hk hy => h.block k hk (fun hx => hy (hxy k hk hx))⟩
theorem Only.ext {X : Nat → Prop} {a w w' : World} (h : Only X w w') (hx : Ext a w) (hX : ∀ k, X k → a.heap.size ≤ k) : Ext a w' :=
  ⟨hx.below.trans ⟨h.os, h.tape, h.output, h.size, fun k hk => h.block k (Nat.lt_of_lt_of_le hk hx.size) (fun hk' => by have := hX k hk'; omega)⟩⟩
theorem Only.cell {X : Nat → Prop} {w w' : World} (h : Only X w w') {b o : Nat} {v : Value} (hc : w.cell? ⟨b, o, none⟩ = some v) (hx : ¬ X b) : w'.cell? ⟨b, o, none⟩ = some v :=
  (World.cell?_of_block (a := ⟨b, o, none⟩) (h.block b (block_lt_of_cell hc) hx)).trans hc
theorem Only.frozen {X : Nat → Prop} {w w' : World} (h : Only X w w') {b o : Nat} (hb : b < w.heap.size) (hx : ¬ X b) : w'.frozen? ⟨b, o, none⟩ = w.frozen? ⟨b, o, none⟩ :=
  World.frozen?_of_block (a := ⟨b, o, none⟩) (h.block b hb hx)
end Go.Proofs.Ytnfgokbopndmgaa

/-
  Cells and blocks stay where worlds only grow. Conditions: none; no function is named here.
-/
namespace Go.Proofs.Ytnfgokbopndmgaa
open Go.RowKit

theorem Ext.at {w w' : World} (h : Ext w w') {b o : Nat} {v : Value} (hc : w.cell? ⟨b, o, none⟩ = some v) : w'.cell? ⟨b, o, none⟩ = some v :=
  (h.below.cell (p := ⟨b, o, none⟩) (block_lt_of_cell hc)).trans hc
theorem Ext.row {w w' : World} (h : Ext w w') {b : Nat} {x : Obj} (hc : w.heap[b]? = some x) : w'.heap[b]? = some x :=
  (h.below.block b (Array.getElem?_eq_some_iff.1 hc).1).trans hc
theorem row_lt {w : World} {b : Nat} {x : Obj} (hc : w.heap[b]? = some x) : b < w.heap.size := (Array.getElem?_eq_some_iff.1 hc).1
theorem Only.row {X : Nat → Prop} {w w' : World} (h : Only X w w') {b : Nat} {x : Obj} (hc : w.heap[b]? = some x) (hx : ¬ X b) : w'.heap[b]? = some x := (h.block b (row_lt hc) hx).trans hc
theorem grown_block (w : World) (g : Nat) (V : Array Value) : w.grownBy (w.setRow g V) (some g) :=
  ⟨rfl, rfl, rfl, by simp [World.setRow], fun k _ hne => setRow_other w g k V (fun e => hne (by rw [e]))⟩
end Go.Proofs.Ytnfgokbopndmgaa

/-
  What the document's own Encode of layer 14 does. Conditions: no more than 2^16 bytes.
-/
namespace Go.Proofs.Ytnfgokbopndmgaa
open Go.RowKit
open Pol (co Sm)

/-- The bytes of an order, and the error's number. -/
def EncR (o : Od) (w : World) (e : Ending) (w' : World) : Prop :=
  Ext w w' ∧ ∃ B n c, e = .returned (.tuple #[.slice B n c, .int .i64 ((o.code : Nat) : Int)]) ∧ o.bytes.length = n ∧ n ≤ c ∧ Rd w' B o.bytes
theorem EncR.no {o : Od} {w : World} (h : ¬ o.right) {w' : World} (hx : Ext w w') : EncR o w (.returned (.tuple #[.slice none 0 0, .int .i64 1])) w' := by
  refine ⟨hx, none, 0, 0, ?_, ?_, Nat.le_refl _, ?_⟩
  · unfold Od.code; rw [if_neg h]; rfl
  · unfold Od.bytes; rw [if_neg h]; rfl
  · unfold Od.bytes; rw [if_neg h]; exact Rd.nil _ _
theorem mine_two14 (w : World) (x y : Nat) : Mine (w.alloc (.cells #[.int .u8 (x : Int), .int .u8 (y : Int)] 5)) w.heap.size (.slice (some ⟨w.heap.size, 0, none⟩) 2 2) [x, y] :=
  World.ownsRow_lit w #[.int .u8 (x : Int), .int .u8 (y : Int)] 2 (Nat.le_refl _) (by decide) rfl
theorem right_is {k t : Int} {a : Nat} {m : List Nat} {n : Nat} (h : m.length = n) : decide (RightN k t a n) = decide (Od.right ⟨k, t, a, m⟩) := by
  subst h
  exact decide_eq_decide.2 Iff.rfl
set_option maxHeartbeats 3200000 in
set_option maxRecDepth 100000 in
theorem ref14_encode (k t : Int) (a n c : Nat) (m : List Nat) (A : Option Addr) (w : World) (hn : m.length = n) (hr : Rd w A m) (hl : n ≤ 65536) (ha : a < 18446744073709551616) :
    Calls Try.prog 11 #[.agg #[.int .i64 k, .int .i64 t, .int .u64 (a : Int), .slice A n c]] w (EncR ⟨k, t, a, m⟩ w) := by
  have HRI := Lib.hid (fun u => ref14_right k t a n c A u)
  rw [right_is hn] at HRI
  have hx0 := (Ext.refl w).alloc (.cells #[.int .i64 k, .int .i64 t, .int .u64 (a : Int), .slice A n c] 25)
  have HX0 := Lib.hid hx0
  by_cases ho : Od.right ⟨k, t, a, m⟩
  · rw [decide_eq_true ho] at HRI
    obtain ⟨b1, b2, b3, b4, _⟩ := Od.right_bounds ho
    dsimp only at b1 b2 b3 b4
    have HE := Lib.hid (show Od.bytes ⟨k, t, a, m⟩ = [k.toNat, t.toNat] ++ vn a ++ vt m ∧ Od.code ⟨k, t, a, m⟩ = 0 from by
      unfold Od.bytes Od.code Od.enc
      rw [if_pos ho, if_pos ho]
      dsimp only
      rw [vn_lt (show k.toNat < 128 by omega), vn_lt (show t.toNat < 128 by omega)]
      exact ⟨rfl, rfl⟩)
    have HSM := Lib.hid (Od.bytes_sm (o := ⟨k, t, a, m⟩) hr.1)
    obtain ⟨kk, rfl⟩ : ∃ q : Nat, (q : Int) = k := ⟨k.toNat, by omega⟩
    obtain ⟨tt, rfl⟩ : ∃ q : Nat, (q : Int) = t := ⟨t.toNat, by omega⟩
    rw [Int.toNat_natCast, Int.toNat_natCast] at HE
    have w8 : IntKind.u8.wrap (kk : Int) = (kk : Int) := by rw [IntKind.wrap_u8]; omega
    have w8' : IntKind.u8.wrap (tt : Int) = (tt : Int) := by rw [IntKind.wrap_u8]; omega
    have HNUM := Lib.hid (fun u => ref8_number a u ha)
    have HTEN := Lib.hid (vn_ten ha)
    have HSMN := Lib.hid (vn_sm a)
    have HTXT := Lib.hid (fun u (h : Ext w u) => show Calls Try.prog 32 #[.slice A n c] u (OwnE (vt m) u) from by
      have h := ref8_text m A c u (hr.ext h) (by omega)
      rwa [hn] at h)
    have HSMT := Lib.hid (vt_sm hr.1)
    have HVT := Lib.hid (show (vt m).length ≤ 65546 from by
      unfold vt
      have h1 := vn_ten (n := m.length) (by omega)
      rw [List.length_append]
      omega)
    unfold EncR
    rw [HE.out.2]
    rw [HE.out.1] at HSM ⊢
    have hkI : (0 : Int) ≤ (kk : Int) := by omega
    clear hr ho HE b1 b2 b3 b4 hx0
    obtain ⟨VA, hVA⟩ : ∃ V, vn a = V := ⟨_, rfl⟩
    obtain ⟨VT, hVT⟩ : ∃ V, vt m = V := ⟨_, rfl⟩
    rw [hVA] at HNUM HTEN HSMN HSM ⊢
    rw [hVT] at HTXT HSMT HVT HSM ⊢
    clear hVA hVT
    have b0 := cell_of_row _ w.heap.size 0 _ _ _ (heap_alloc_new w (.cells #[.int .i64 (kk : Int), .int .i64 (tt : Int), .int .u64 (a : Int), .slice A n c] 25))
    have b1 := cell_of_row _ w.heap.size 1 _ _ _ (heap_alloc_new w (.cells #[.int .i64 (kk : Int), .int .i64 (tt : Int), .int .u64 (a : Int), .slice A n c] 25))
    have b2 := cell_of_row _ w.heap.size 2 _ _ _ (heap_alloc_new w (.cells #[.int .i64 (kk : Int), .int .i64 (tt : Int), .int .u64 (a : Int), .slice A n c] 25))
    have b3 := cell_of_row _ w.heap.size 3 _ _ _ (heap_alloc_new w (.cells #[.int .i64 (kk : Int), .int .i64 (tt : Int), .int .u64 (a : Int), .slice A n c] 25))
    simp only [List.getElem?_toArray, List.getElem?_cons_zero, List.getElem?_cons_succ] at b0 b1 b2 b3
    have HB := Lib.hid (And.intro b0 (And.intro b1 (And.intro b2 b3)))
    clear b0 b1 b2 b3
    go_enter Try.func11, Try.ntmps11
    go_wp2_with fail
    refine (HRI.out _).mono ?_
    rintro e w1 ⟨rfl, hx1⟩
    obtain ⟨q0, q1, q2, q3⟩ := HB.out
    have c0 := hx1.at q0
    have c1 := hx1.at q1
    have hx2 := hx1.trans ((Ext.refl w1).alloc (.cells #[.int .u8 (kk : Int), .int .u8 (tt : Int)] 5))
    have c2 := hx2.at q2
    have HX2 := Lib.hid (HX0.out.trans hx2)
    have HB2 := Lib.hid (hx2.at q3)
    have HM2 := Lib.hid (mine_two14 w1 kk tt)
    have HS1 := Lib.hid (HX0.out.trans hx1).size
    have HS1' := Lib.hid (show w.heap.size + 1 ≤ w1.heap.size from by have h := hx1.size; simp at h; exact h)
    clear hx1 hx2 q0 q1 q2 q3
    go_wp2_with fail
    refine (HNUM.out _).mono ?_
    rintro e w3 ⟨v3, rfl, hm3, hx3⟩
    obtain ⟨B3, c3, rfl, hc3, hr3⟩ := hm3.slice HSMN.out
    have HX3 := Lib.hid (HX2.out.trans hx3)
    have HB3 := Lib.hid (hx3.at HB2.out)
    have HM3 := Lib.hid ((mine_ext HM2.out hx3).down (base' := w.heap.size) HS1.out)
    have HR3 := Lib.hid hr3
    obtain ⟨la, hla⟩ : ∃ q, VA.length = q := ⟨_, rfl⟩
    have HLA := Lib.hid hla
    rw [hla] at hc3 HTEN ⊢
    clear hx3 hm3 hr3 hla HM2 HB2
    go_wp2_with (first | (at_builtin; refine wpList_append_rd rfl (.tmp 15) (.tmp 18) rfl w.heap.size _ [kk, tt] VA rfl HM3.out B3 la c3 rfl HLA.out HR3.out (by rw [HLA.out]; have := HTEN.out; simp; omega) HX3.out.size ?_; intro v4 w4 hm4 hg4 _; have hx4 := HX3.out.more hg4 (fun r e => (HM3.out.block r e).1); have HX4 := Lib.hid hx4; have hb4 := hg4.cell HB3.out (fun e => by change some _ = some _ at e; injection e with e; dsimp only at e; have h := HS1'.out; omega); have HM4 := Lib.hid hm4; clear hm4 hg4 hx4) | fail)
    refine (HTXT.out _ HX4.out).mono ?_
    rintro e w5 ⟨v5, rfl, hm5, hx5⟩
    obtain ⟨B5, c5, rfl, hc5, hr5⟩ := hm5.slice HSMT.out
    have HX5 := Lib.hid (HX4.out.trans hx5)
    have HM5 := Lib.hid (mine_ext HM4.out hx5)
    have HR5 := Lib.hid hr5
    obtain ⟨lt, hlt⟩ : ∃ q, VT.length = q := ⟨_, rfl⟩
    have HLT := Lib.hid hlt
    rw [hlt] at hc5 HVT ⊢
    clear hx5 hm5 hr5 hlt HM4 hb4 HM3 HB3
    go_wp2_with (first | (at_builtin; refine wpList_append_rd rfl (.tmp 20) (.tmp 23) rfl w.heap.size _ ([kk, tt] ++ VA) VT rfl HM5.out B5 lt c5 rfl HLT.out HR5.out (by rw [HLT.out, List.length_append, HLA.out]; have := HTEN.out; have := HVT.out; simp; omega) HX5.out.size ?_; intro v6 w6 hm6 hg6 _; have HX6 := Lib.hid (HX5.out.more hg6 (fun r e => (HM5.out.block r e).1)); obtain ⟨B6, c6, rfl, hc6, hr6⟩ := hm6.slice HSM.out; have HR6 := Lib.hid hr6; have HC6 := Lib.hid hc6; clear hm6 hg6 hr6 hc6) | fail)
    go_ret2
    have h6 := HC6.out
    simp only [List.length_append, List.length_cons, List.length_nil] at h6
    exact ⟨HX6.out, _, _, _, rfl, by simp, by omega, HR6.out⟩
  · rw [decide_eq_false ho] at HRI
    have HO := Lib.hid ho
    clear hr hx0 ho
    go_enter Try.func11, Try.ntmps11
    go_wp2_with fail
    refine (HRI.out _).mono ?_
    rintro e w1 ⟨rfl, hx1⟩
    have HX1 := Lib.hid (HX0.out.trans hx1)
    clear hx1
    go_wp2
    go_ret2
    exact EncR.no HO.out HX1.out
end Go.Proofs.Ytnfgokbopndmgaa

/-
  Two slices that read as one list are the same to the statements' own comparison. Conditions: none.
-/
namespace Go.Proofs.Ytnfgokbopndmgaa
open Go.RowKit
open Pol (co Sm)

set_option maxHeartbeats 400000 in
set_option maxRecDepth 100000 in
theorem same_true (l : List Nat) (A B : Option Addr) (ca cb : Nat) (w : World) (ha : Rd w A l) (hb : Rd w B l) (hl : l.length ≤ 1048576) :
    Calls Try.prog 14 #[.slice A l.length ca, .slice B l.length cb] w (Hands (.bool true) w) := by
  generalize hn : l.length = n at *
  have HA := Lib.hid ha
  have HB := Lib.hid hb
  have HN := Lib.hid hn
  clear ha hb hn
  go_enter Try.func14, Try.ntmps14
  go_wp2
  go_loopg [13] n (fun g s wx => ∃ k m : Nat, k + g = n ∧ s = .int .i64 (k : Int) ∧ wx = w.drewN m)
  case atStart => exact ⟨0, 0, by omega, rfl, rfl⟩
  case round =>
    obtain ⟨k, m, hkg, rfl, rfl⟩ := hrel
    cases gk with
    | zero =>
      obtain rfl : k = n := by omega
      clear hkg
      go_wp2
      go_ret
      exact ⟨rfl, m, rfl⟩
    | succ g =>
      have hk : k < n := by omega
      obtain ⟨b, o, rfl, hc⟩ := HA.out.2 k (by rw [HN.out]; exact hk)
      obtain ⟨b', o', rfl, hc'⟩ := HB.out.2 k (by rw [HN.out]; exact hk)
      have hkI : (k : Int) < (n : Int) := by omega
      go_wp2
      go_quiet (fail)
      go_wp2
      go_roundg g
      case measure => omega
      case rel => exact ⟨k + 1, _, by omega, by go_num, rfl⟩
theorem same_tells (l : List Nat) (A B : Option Addr) (ca cb : Nat) (w : World) (ha : Rd w A l) (hb : Rd w B l) (hl : l.length ≤ 1048576) :
    Calls Try.prog 14 #[.slice A l.length ca, .slice B l.length cb] w (Tells (.bool true) w) := (same_true l A B ca cb w ha hb hl).mono fun _ _ h => h.tells
end Go.Proofs.Ytnfgokbopndmgaa

/-
  What it is to lay something behind bytes of a call's own. Conditions: none; no function is named here.
-/
namespace Go.Proofs.Ytnfgokbopndmgaa
open Go.RowKit
open Pol (co Sm)

/-- What lays something behind bytes of a call's own. -/
def Lays (base : Nat) (v : Value) (l : List Nat) (w : World) (e : Ending) (w' : World) : Prop :=
  ∃ v', e = .returned v' ∧ Mine w' base v' l ∧ w.grownBy w' v.ownBlock ∧ (v'.ownBlock = v.ownBlock ∨ ∃ k, v'.ownBlock = some k ∧ w.heap.size ≤ k)
/-- From v in world w on, vx has come in world wx. -/
def LayS (w wx : World) (v vx : Value) : Prop := w.grownBy wx v.ownBlock ∧ (vx.ownBlock = v.ownBlock ∨ ∃ k, vx.ownBlock = some k ∧ w.heap.size ≤ k)
theorem LayS.refl (w : World) (v : Value) : LayS w w v v := ⟨⟨rfl, rfl, rfl, Nat.le_refl _, fun _ _ _ => rfl⟩, .inl rfl⟩
theorem LayS.step {w wx w' : World} {v vx v' : Value} (h : LayS w wx v vx) (hg : wx.grownBy w' vx.ownBlock) (ha : v'.ownBlock = vx.ownBlock ∨ v'.ownBlock = some wx.heap.size) : LayS w w' v v' := by
  refine ⟨⟨hg.os.trans h.1.os, hg.tape.trans h.1.tape, hg.output.trans h.1.output, Nat.le_trans h.1.size hg.size, fun k hk hne => (hg.block k (Nat.lt_of_lt_of_le hk h.1.size) ?_).trans (h.1.block k hk hne)⟩, ?_⟩
  · intro e
    rcases h.2 with e' | ⟨b, e', hb⟩
    · exact hne (e.trans e')
    · rw [e'] at e
      injection e with e
      omega
  · rcases ha with e | e
    · rcases h.2 with e' | ⟨b, e', hb⟩
      · exact .inl (e.trans e')
      · exact .inr ⟨b, e.trans e', hb⟩
    · exact .inr ⟨_, e, h.1.size⟩
theorem LayS.alloc {w wx : World} {v vx : Value} (h : LayS w wx v vx) (o : Obj) : LayS w (wx.alloc o) v vx :=
  ⟨⟨h.1.os, h.1.tape, h.1.output, by simp; have := h.1.size; omega, fun k hk hne => (heap_alloc_old _ _ (Nat.lt_of_lt_of_le hk h.1.size)).trans (h.1.block k hk hne)⟩, h.2⟩
theorem LayS.lays {w w' : World} {base : Nat} {v v' : Value} {l : List Nat} (h : LayS w w' v v') (hm : Mine w' base v' l) : Lays base v l w (.returned v') w' := ⟨v', rfl, hm, h.1, h.2⟩

set_option maxRecDepth 100000 in
theorem or8_128 : ∀ b : Nat, b < 256 → bits .or .u8 (b : Int) 128 = ((b % 128 + 128 : Nat) : Int) := by decide

theorem LayS.ext {w wx wy : World} {v vx : Value} (h : LayS w wx v vx) (hx : Ext wx wy) : LayS w wy v vx :=
  ⟨⟨hx.below.os.trans h.1.os, hx.below.tape.trans h.1.tape, hx.below.output.trans h.1.output, Nat.le_trans h.1.size hx.size, fun k hk hne => (hx.below.block k (Nat.lt_of_lt_of_le hk h.1.size)).trans (h.1.block k hk hne)⟩, h.2⟩

end Go.Proofs.Ytnfgokbopndmgaa

/-
  The statements' own comparison of bytes tells lists that are unlike from those that are alike. Conditions: no more than 2^20 bytes.
-/
namespace Go.Proofs.Ytnfgokbopndmgaa
open Go.RowKit
open Pol (co Sm)

set_option maxHeartbeats 400000 in
set_option maxRecDepth 100000 in
theorem same_no (l m : List Nat) (A B : Option Addr) (ca cb : Nat) (w : World) (ha : Rd w A l) (hb : Rd w B m) (hl : l.length ≤ 1048576) (h : l ≠ m) :
    Calls Try.prog 14 #[.slice A l.length ca, .slice B m.length cb] w (Hands (.bool false) w) := by
  by_cases hlm : l.length = m.length
  · rw [← hlm]
    have HNE := Lib.hid (fun (k : ∀ j, j < l.length → co l j = co m j) => h (Lin.list_ext hlm k))
    have HLM := Lib.hid hlm
    generalize hn : l.length = n at *
    have HA := Lib.hid ha
    have HB := Lib.hid hb
    have HN := Lib.hid hn
    clear ha hb hn h hlm
    go_enter Try.func14, Try.ntmps14
    go_wp2
    go_loopg [13] n (fun g s wx => ∃ k q : Nat, k + g = n ∧ s = .int .i64 (k : Int) ∧ wx = w.drewN q ∧ ∀ j, j < k → co l j = co m j)
    case atStart => exact ⟨0, 0, by omega, rfl, rfl, fun j hj => by omega⟩
    case round =>
      obtain ⟨k, q, hkg, rfl, rfl, hsame⟩ := hrel
      have HSA := Lib.hid hsame
      clear hsame
      cases gk with
      | zero =>
        obtain rfl : k = n := by omega
        exact absurd HSA.out HNE.out
      | succ g =>
        have hk : k < n := by omega
        obtain ⟨b, o, rfl, hc⟩ := HA.out.2 k (by rw [HN.out]; exact hk)
        obtain ⟨b', o', rfl, hc'⟩ := HB.out.2 k (by rw [← HLM.out]; exact hk)
        have hkI : (k : Int) < (n : Int) := by omega
        obtain ⟨x, hx⟩ : ∃ x, co l k = x := ⟨_, rfl⟩
        obtain ⟨y, hy⟩ : ∃ y, co m k = y := ⟨_, rfl⟩
        rw [hx] at hc
        rw [hy] at hc'
        by_cases e : x = y
        · have t : ((x : Int) != (y : Int)) = false := by subst e; simp
          have HE := Lib.hid (show co l k = co m k by rw [hx, hy]; exact e)
          clear e hx hy
          go_wp2
          go_quiet (fail)
          go_wp2
          go_roundg g
          case measure => omega
          case rel => exact ⟨k + 1, _, by omega, by go_num, rfl, fun j hj => by
            by_cases e : j = k
            · subst e; exact HE.out
            · exact HSA.out j (by omega)⟩
        · have t : ((x : Int) != (y : Int)) = true := by simp; omega
          clear e hx hy
          go_wp2
          go_quiet (fail)
          go_wp2
          go_ret
          exact ⟨rfl, q + nq, by rw [World.drewN_drewN]⟩
  · have t : ((l.length : Int) != (m.length : Int)) = true := by simp; omega
    generalize l.length = n at *
    generalize m.length = n' at *
    clear ha hb h
    go_enter Try.func14, Try.ntmps14
    go_wp2
    go_ret
    exact ⟨rfl, 0, rfl⟩
end Go.Proofs.Ytnfgokbopndmgaa

/-
  What a reader of layer 8 is in memory (which the code decides), and how a reading ends. Conditions: none.
-/
namespace Go.Proofs.Ytnfgokbopndmgaa
open Go.RowKit
open Pol (co Sm)

/-- The blocks from lo on, below hi. -/
def Btw (lo hi k : Nat) : Prop := lo ≤ k ∧ k < hi
/-- What a reader is in memory: between which blocks its own lie, where its bytes lie, where it is, and what is left; and how a reading ends with an error. -/
structure Rdr where
  RI : Nat → Nat → Option Addr → Addr → World → List Nat → Prop
  St : Nat → Nat → Option Addr → Addr → World → Nat → List PanicEntry → Prop
/-- A call of a reader's method. -/
def Reads {α : Type} (I : Rdr) (lo hi : Nat) (B : Option Addr) (ρ : Addr) (V : Value → World → α → Prop) (r : Rs α) (w : World) (e : Ending) (w' : World) : Prop :=
  Only (Btw lo hi) w w' ∧ match r with
    | .ok a rest => ∃ v, e = .returned v ∧ V v w' a ∧ I.RI lo hi B ρ w' rest
    | .er n => ∃ ch, e = .panicked ch ∧ I.St lo hi B ρ w' n ch
/-- Bytes of a call's own. -/
def OwnB (base : Nat) (v : Value) (w : World) (t : List Nat) : Prop := ∃ B c, v = .slice B t.length c ∧ t.length ≤ c ∧ Rd w B t ∧ ∀ b o, B = some ⟨b, o, none⟩ → 0 < t.length → base ≤ b
def dg (t : List Nat) : Value := .agg (bv t).toArray
/-- What the function that reads does: it comes to its end, or ends by an error of the reader's, or panics by itself with an integer. -/
inductive By where
  | done (l : List Nat)
  | fails (n : Nat)
  | dies (x : Int)
def ByE (I : Rdr) (lo hi : Nat) (B : Option Addr) (ρ : Addr) (J : Nat → World → By → Prop) (e : Ending) (w : World) : Prop :=
  (∃ l v, e = .returned v ∧ I.RI lo hi B ρ w l ∧ J hi w (.done l)) ∨ (∃ n ch, e = .panicked ch ∧ I.St lo hi B ρ w n ch ∧ J hi w (.fails n)) ∨
  (∃ x, e = .panicked [{ v := .iface 3 (.int .i64 x), recovered := false }] ∧ (∃ l, I.RI lo hi B ρ w l) ∧ J hi w (.dies x))
def endOf : By → Ending → Prop
  | .done l, e => e = .returned (.int .i64 (if l = [] then 0 else 3))
  | .fails n, e => e = .returned (.int .i64 (n : Int))
  | .dies x, e => ∃ older : List PanicEntry, e = .panicked ({ v := .iface 3 (.int .i64 x), recovered := false } :: older) ∧ ∀ p ∈ older, p.goexit = false
def ReadE (J : Nat → World → By → Prop) (w : World) (e : Ending) (w' : World) : Prop := ∃ hi w2 y, w.heap.size ≤ hi ∧ J hi w2 y ∧ Only (Btw w.heap.size hi) w2 w' ∧ endOf y e
theorem ByE.mono {I : Rdr} {lo hi : Nat} {B : Option Addr} {ρ : Addr} {J J' : Nat → World → By → Prop} {e : Ending} {w : World} (h : ByE I lo hi B ρ J e w) (hJ : ∀ w y, J hi w y → J' hi w y) : ByE I lo hi B ρ J' e w := by
  rcases h with ⟨l, v, h1, h2, h3⟩ | ⟨n, ch, h1, h2, h3⟩ | ⟨x, h1, h2, h3⟩
  · exact .inl ⟨l, v, h1, h2, hJ _ _ h3⟩
  · exact .inr (.inl ⟨n, ch, h1, h2, hJ _ _ h3⟩)
  · exact .inr (.inr ⟨x, h1, h2, hJ _ _ h3⟩)
theorem Rd.block' {w : World} {A : Option Addr} {l : List Nat} (h : Rd w A l) : ∀ b o, A = some ⟨b, o, none⟩ → 0 < l.length → b < w.heap.size := fun b o e hl => by
  obtain ⟨b', o', e', hc⟩ := h.2 0 hl
  rw [e] at e'
  injection e' with e'
  injection e' with e' _
  rw [e']
  exact block_lt_of_cell hc
/-- Where bytes lie, if there are any. -/
def nz (b : List Nat) (B : Option Addr) : Option Addr := if b = [] then none else B
theorem nz_some {b : List Nat} {B : Option Addr} {a : Addr} (h : nz b B = some a) : B = some a ∧ 0 < b.length := by
  unfold nz at h
  split at h
  · cases h
  · rename_i hb
    exact ⟨h, List.length_pos_iff.2 hb⟩
theorem mine_only {X : Nat → Prop} {w w' : World} {base : Nat} {v : Value} {l : List Nat} (h : Mine w base v l) (ho : Only X w w') (hx : ∀ k, v.ownBlock = some k → ¬ X k) : Mine w' base v l := by
  refine ⟨h.1, ?_⟩
  rcases h.2 with h0 | ⟨g, cap, cur, e, hb, hg, h3⟩
  · exact .inl h0
  · refine .inr ⟨g, cap, cur, e, hb, ?_, h3⟩
    rw [ho.block g (World.ownsRow.lt h g (by rw [e]; rfl)).2 (hx g (by rw [e]; rfl))]
    exact hg
/-- A function with a body, as Go code has it. -/
def HasBody (fn : FuncId) : Prop := ∃ F c, Try.prog.funcs[fn]? = some F ∧ F.body = some c ∧ (F.name == "runtime.NumGoroutine") = false

theorem grown_set' (w : World) (g o : Nat) (v : Value) : w.grownBy (w.setCell ⟨g, o, none⟩ v) (some g) :=
  ⟨rfl, rfl, rfl, by simp [World.setCell], fun k _ hk => Below.heap_setCell _ _ _ k (fun e => hk (by rw [e]))⟩

end Go.Proofs.Ytnfgokbopndmgaa

/-
  Parts of slices of bytes. Conditions: none; no function is named here.
-/
namespace Go.Proofs.Ytnfgokbopndmgaa
open Go.RowKit
open Pol (co Sm)

/-- s[:h] of bytes. -/
theorem run_to_u8 (A : Option Addr) (len cap h : Nat) (hh : h ≤ cap) (W : World) :
    (Instr.slice 23 (.slice A len cap) none (some (.int .i64 (h : Int))) none).run Try.prog W = .ok (.slice A h cap) W := by
  obtain ⟨i0, hi, hz0, hz1, hz2⟩ := info_parts u8_info
  have he : Try.prog.elem 23 = 5 := by kernel_rfl
  rw [run_slice_h W 23 _ len cap (by rw [he]; exact Try.underlying23) .i64 (h : Int) (by omega) (by omega), he]
  cases A <;> simp [sizeOf, typeInfo, hi, hz1, Result.andThen, sliced, Addr.add]
/-- s[a:b] of bytes. -/
theorem run_cut_u8 (A : Option Addr) (len cap a b : Nat) (hab : a ≤ b) (hb : b ≤ cap) : ∃ X : Option Addr, (∀ W, (Instr.slice 23 (.slice A len cap) (some (.int .i64 (a : Int))) (some (.int .i64 (b : Int))) none).run Try.prog W = .ok (.slice X (b - a) (cap - a)) W) ∧
    ∀ w l, Rd w A l → b ≤ l.length → Rd w X (tab (b - a) (fun j => co l (a + j))) := by
  obtain ⟨i0, hi, hz0, hz1, hz2⟩ := info_parts u8_info
  have he : Try.prog.elem 23 = 5 := by kernel_rfl
  refine ⟨if cap = a then A else A.map (·.add a), fun W => ?_, fun w l h hl => ⟨tab_sm _ _ fun _ _ => h.1 _, fun i hi => ?_⟩⟩
  · rw [run_slice_lh W 23 _ len cap (by rw [he]; exact Try.underlying23) .i64 .i64 (a : Int) (b : Int) (by omega) (by omega) (by omega), he]
    cases A <;> simp [sizeOf, typeInfo, hi, hz1, Result.andThen, sliced]
  · rw [tab_len] at hi
    obtain ⟨b', o', e, hc⟩ := h.2 (a + i) (by omega)
    subst e
    refine ⟨b', o' + a, by rw [if_neg (by omega)]; simp [addr_add], ?_⟩
    rw [co_tab, if_pos hi, Nat.add_assoc]
    exact hc
/-- s[l:] of bytes, whole. -/
theorem run_rest_u8 (A : Option Addr) (len cap l : Nat) (hl : l ≤ len) (hc : len ≤ cap) : ∃ X : Option Addr, (∀ W, (Instr.slice 23 (.slice A len cap) (some (.int .i64 (l : Int))) none none).run Try.prog W = .ok (.slice X (len - l) (cap - l)) W) ∧
    (∀ w L, Rd w A L → L.length = len → Rd w X (tab (len - l) (fun j => co L (l + j)))) ∧ (∀ b o, l < cap → A = some ⟨b, o, none⟩ → X = some ⟨b, o + l, none⟩) := by
  obtain ⟨i0, hi, hz0, hz1, hz2⟩ := info_parts u8_info
  have he : Try.prog.elem 23 = 5 := by kernel_rfl
  refine ⟨if cap = l then A else A.map (·.add l), fun W => ?_, fun w L h hL => ⟨tab_sm _ _ fun _ _ => h.1 _, fun i hi => ?_⟩, fun b o h e => ?_⟩
  · rw [run_slice_l W 23 _ len cap (by rw [he]; exact Try.underlying23) .i64 (l : Int) (by omega) (by omega), he]
    cases A <;> simp [sizeOf, typeInfo, hi, hz1, Result.andThen, sliced]
  · rw [tab_len] at hi
    obtain ⟨b', o', e, hc⟩ := h.2 (l + i) (by omega)
    subst e
    refine ⟨b', o' + l, by rw [if_neg (by omega)]; simp [addr_add], ?_⟩
    rw [co_tab, if_pos hi, Nat.add_assoc]
    exact hc
  · subst e
    rw [if_neg (by omega)]
    simp [addr_add]

end Go.Proofs.Ytnfgokbopndmgaa

/-
  A region that draws its order, by an invariant: what holds of the listed operations, whichever they are, is kept by each operation that may come up next. Conditions: each operation waits for operations ahead of it in the text alone; of no program in particular.
-/
namespace Go.Proofs.Ytnfgokbopndmgaa
open Go

section
variable {P : Program} {ops : Array Oper} {Q : Exit → Act → World → Prop}

theorem Oper.wp_then {o : Oper} {a : Act} {w : World} {K K' : Act → World → Prop} (h : ∀ a w, K' a w → K a w) (hh : o.wp P a w K' (Exit.then K Q)) : o.wp P a w K Q := by
  unfold Oper.wp at *
  generalize (execOp a.eval o).run P w = r at *
  cases r with
  | ok n w' =>
    cases n <;> simp only [Oper.upon] at hh ⊢ <;>
      first
        | exact h _ _ hh
        | exact Calls.mono hh (fun e w'' he => by cases e <;> first | exact h _ _ he | exact he)
        | exact Rows.mono hh (fun _ _ he => h _ _ he)
  | halt x w' => cases x <;> simp only [Oper.upon] at hh ⊢ <;> exact hh
theorem wpOp_of_one {i : Nat} {o : Oper} {a : Act} {w : World} {K : Act → World → Prop} (hi : ops[i]? = some o) (h : wpList P ops (Exit.then K Q) [o] a w) : wpOp P ops Q i K a w := by
  unfold wpOp
  rw [hi]
  simp only
  unfold wpList at h
  split
  · rename_i hw
    rw [if_pos hw] at h
    rcases h with h | h
    · exact .inl (Oper.wp_then (fun a w h => by unfold wpList at h; exact h) h)
    · exact .inr h
  · rename_i hw
    rw [if_neg hw] at h
    unfold wpList at h
    exact h
def depsB (l : List Oper) : Bool := (List.range l.length).all fun i => match l[i]? with | some o => o.after.all (fun e => decide (e.on < i)) | none => true
theorem depsB_spec {l : List Oper} (h : depsB l = true) {i : Nat} {o : Oper} (hi : l[i]? = some o) : ∀ e ∈ o.after, e.on < i := by
  have hlt : i < l.length := (List.getElem?_eq_some_iff.1 hi).1
  have h1 := List.all_eq_true.1 h i (List.mem_range.2 hlt)
  rw [hi] at h1
  intro e he
  have h2 := (Array.all_eq_true_iff_forall_mem.1 h1) e he
  simpa using h2
theorem getD_true_of {L : Array Bool} {k : Nat} (h : L.getD k false = true) : L.getD k true = true := by
  rw [Array.getD_eq_getD_getElem?] at h ⊢
  cases hk : L[k]? with
  | none => rfl
  | some b => rw [hk] at h; exact h
theorem getD_false_of {L : Array Bool} {k : Nat} (hk : k < L.size) (h : L.getD k true = true) : L.getD k false = true := by
  rw [Array.getD_eq_getD_getElem?] at h ⊢
  rw [Array.getElem?_eq_getElem hk] at h ⊢
  exact h
theorem getD_listed (L : Array Bool) (i j : Nat) : (L.setIfInBounds i true).getD j true = (j == i || L.getD j true) := by
  by_cases e : j = i
  · subst e
    rw [Array.getD_eq_getD_getElem?, Array.getElem?_setIfInBounds_self]
    split <;> simp
  · rw [getD_set_ne true (fun h => e h.symm), show (j == i) = false from beq_eq_false_iff_ne.2 e, Bool.false_or]

theorem wpAny_inv {l : List Oper} (I : (Nat → Bool) → Act → World → Prop) (hB : depsB l = true)
    (hs : ∀ i o, l[i]? = some o → ∀ L a w, I L a w → L i = false → (∀ e ∈ o.after, Region.binds .any e = true → L e.on = true) → wpList P l.toArray (Exit.then (fun a' w' => I (fun j => j == i || L j) a' w') Q) [o] a w)
    (he : ∀ L a w, (∀ i, i < l.length → L i = true) → I L a w → Q .normal a w) :
    ∀ (f : Nat) (L : Array Bool) (a : Act) (w : World) (U : List Nat), L.size = l.length → U.length = f → (∀ i, L.getD i true = false → i ∈ U) → I (fun i => L.getD i true) a w → wpAny P .any l.toArray Q f L a w := by
  have hall : ∀ L : Array Bool, L.size = l.length → Region.ready .any l.toArray L = [] → ∀ i, i < l.length → L.getD i true = true := fun L hsz hr i => by
    induction i using Nat.strongRecOn with
    | _ i ih =>
      intro hi
      cases hb : L.getD i true with
      | true => rfl
      | false =>
        have hoi : l.toArray[i]? = some l[i] := by simp [hi]
        have hm : i ∈ Region.ready .any l.toArray L := mem_ready.2 ⟨hb, _, hoi, fun e hee _ => by
          have hlt := depsB_spec hB (i := i) (o := l[i]) (by simp [hi]) e hee
          exact getD_false_of (by omega) (ih e.on hlt (by omega))⟩
        rw [hr] at hm
        cases hm
  intro f
  induction f with
  | zero =>
    intro L a w U hsz hU hin hI
    have hU0 : U = [] := List.eq_nil_of_length_eq_zero hU
    subst hU0
    have hL : ∀ i, L.getD i true = true := fun i => by
      cases hb : L.getD i true with
      | true => rfl
      | false => exact absurd (hin i hb) (by simp)
    refine ⟨?_, he _ a w (fun i _ => hL i) hI⟩
    rcases hr : Region.ready .any l.toArray L with _ | ⟨i, r⟩
    · rfl
    · have hm : i ∈ Region.ready .any l.toArray L := by rw [hr]; simp
      have := (mem_ready.1 hm).1
      rw [hL i] at this
      cases this
  | succ f ih =>
    intro L a w U hsz hU hin hI
    refine ⟨fun hr => he _ a w (hall L hsz hr) hI, fun i hi => ?_⟩
    obtain ⟨hun, o, ho, haft⟩ := mem_ready.1 hi
    have ho' : l[i]? = some o := by simpa using ho
    have h1 := hs i o ho' _ a w hI hun (fun e hee hb => getD_true_of (haft e hee hb))
    have hU' : (U.erase i).length = f := by rw [List.length_erase_of_mem (hin i hun)]; omega
    refine wpOp_mono (fun a' w' hI' => ?_) (wpOp_of_one ho h1)
    refine ih _ a' w' (U.erase i) (by simpa using hsz) hU' (fun j hj => ?_) ?_
    · rw [getD_listed, Bool.or_eq_false_iff] at hj
      exact (List.mem_erase_of_ne (by simpa using hj.1)).2 (hin j hj.2)
    · simp only [getD_listed]
      exact hI'
theorem wp_region_inv {id : Nat} {a : Act} {w : World} {l : List Oper} (I : (Nat → Bool) → Act → World → Prop) (hm : P.follows .mixedOrders = true) (hB : depsB l = true) (h0 : I (fun i => !decide (i < l.length)) a w.drew)
    (hs : ∀ i o, l[i]? = some o → ∀ L a w, I L a w → L i = false → (∀ e ∈ o.after, Region.binds .any e = true → L e.on = true) → wpList P l.toArray (Exit.then (fun a' w' => I (fun j => j == i || L j) a' w') Q) [o] a w)
    (he : ∀ L a w, (∀ i, i < l.length → L i = true) → I L a w → wpList P l.toArray Q [] a w) : (Code.region id l.toArray true).wp P Q a w := by
  have e0 : (fun i => (Array.replicate l.toArray.size false).getD i true) = fun i => !decide (i < l.length) := by
    funext i
    rw [Array.getD_eq_getD_getElem?, Array.getElem?_replicate]
    by_cases h : i < l.length <;> simp [h]
  refine wp_region_any hm ?_
  refine wpAny_inv I hB hs he l.toArray.size _ a _ (List.range l.length) (by simp) (by simp) (fun i hi => ?_) (by rw [e0]; exact h0)
  have h1 := congrFun e0 i
  rw [hi] at h1
  exact List.mem_range.2 (by simpa using h1.symm)
end
end Go.Proofs.Ytnfgokbopndmgaa
