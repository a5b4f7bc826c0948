/-
  Part 1 of the texts that the seat's proofs stand on; each part of it begins with its own sentence and conditions. Conditions: those that each theorem names.
-/
import Derived.WalkKit
import Derived.Lib.Hide
import Derived.Deep.QuietTactic
import Derived.BigQuiet
import Derived.Deep.WholeRow
import Derived.Deep.MidRow
import Derived.Deep.LoopGhost
import Derived.Laws.BitsAllLaws
import Derived.OpenShut
import Derived.Test.YtjedogkfllddaaaProg
import Derived.Maps.AppendAt
import Derived.Deep.RegionWith
import Derived.Handy
import Derived.ProofKit
import Derived.Orders

/-
  The plain mathematics of the field with 256 elements, on natural numbers: the powers of 3, their exponents, products, quotients and powers, and the laws that they keep. Conditions: none; nothing of the program is named here.
-/
namespace Gf

/-- Times 2, modulo x^8 + x^4 + x^3 + x + 1. -/
def dbl (a : Nat) : Nat := ((2 * a) % 256) ^^^ (if a < 128 then 0 else 27)
/-- Times 3. -/
def tri (a : Nat) : Nat := dbl a ^^^ a
/-- The powers of 3. -/
def pw : Nat → Nat
  | 0 => 1
  | n + 1 => tri (pw n)
/-- The table of exponents behind k rounds. -/
def lt : Nat → Nat → Nat
  | 0, _ => 0
  | k + 1, x => if x = pw k then k else lt k x
def lg (x : Nat) : Nat := lt 255 x
def mul (a b : Nat) : Nat := if a = 0 ∨ b = 0 then 0 else pw ((lg a + lg b) % 255)
def quo (a b : Nat) : Nat := if a = 0 then 0 else pw ((lg a + 255 - lg b) % 255)
def pow (a n : Nat) : Nat := if n = 0 then 1 else if a = 0 then 0 else pw ((lg a * (n % 255)) % 255)

def run : Nat → Nat → List Nat
  | 0, _ => []
  | n + 1, x => x :: run n (tri x)

theorem run_at : ∀ (n i s : Nat), i < n → (run n (pw s))[i]? = some (pw (s + i))
  | 0, _, _, h => by omega
  | n + 1, 0, s, _ => by simp [run]
  | n + 1, i + 1, s, h => by
    have := run_at n i (s + 1) (by omega)
    simp only [run, List.getElem?_cons_succ]
    rw [show tri (pw s) = pw (s + 1) from rfl, this]
    congr 2; omega

theorem run_len : ∀ (n x : Nat), (run n x).length = n
  | 0, _ => rfl
  | n + 1, x => by simp [run, run_len n]

theorem tab_nodup : (run 255 1).Nodup := by decide +kernel
theorem tab_all : ∀ a, a < 256 → a ≠ 0 → a ∈ run 255 1 := by decide +kernel
theorem tab_small : ∀ a ∈ run 255 1, a ≠ 0 ∧ a < 256 := by decide +kernel
theorem tri_add : ∀ a, a < 256 → ∀ b, b < 256 → tri (a ^^^ b) = tri a ^^^ tri b := by decide +kernel
theorem tri_lt : ∀ a, a < 256 → tri a < 256 := by decide +kernel
theorem dbl_lt : ∀ a, a < 256 → dbl a < 256 := by decide +kernel
theorem pw_255 : pw 255 = 1 := by decide +kernel

theorem tab_at (i : Nat) (h : i < 255) : (run 255 1)[i]? = some (pw i) := by
  have := run_at 255 i 0 h
  simpa [pw] using this

theorem pw_inj (i j : Nat) (hi : i < 255) (hj : j < 255) (h : pw i = pw j) : i = j := by
  have a := tab_at i hi
  have b := tab_at j hj
  rw [← h] at b
  have hl := run_len 255 1
  obtain ⟨_, ea⟩ := List.getElem?_eq_some_iff.1 a
  obtain ⟨_, eb⟩ := List.getElem?_eq_some_iff.1 b
  have hp := List.pairwise_iff_getElem.1 tab_nodup
  rcases Nat.lt_trichotomy i j with hlt | he | hlt
  · exact absurd (ea.trans eb.symm) (hp i j _ _ hlt)
  · exact he
  · exact absurd (eb.trans ea.symm) (hp j i _ _ hlt)

theorem pw_add255 : ∀ n, pw (n + 255) = pw n
  | 0 => by rw [Nat.zero_add]; exact pw_255
  | n + 1 => by
    rw [show n + 1 + 255 = (n + 255) + 1 from by omega]
    show tri (pw (n + 255)) = tri (pw n)
    rw [pw_add255 n]

theorem pw_mul255 (n : Nat) : ∀ k, pw (n + 255 * k) = pw n
  | 0 => rfl
  | k + 1 => by rw [show n + 255 * (k + 1) = (n + 255 * k) + 255 from by omega, pw_add255, pw_mul255 n k]

theorem pw_mod (n : Nat) : pw (n % 255) = pw n := by
  have := pw_mul255 (n % 255) (n / 255)
  rw [show n % 255 + 255 * (n / 255) = n from by omega] at this
  exact this.symm

theorem pw_bd (n : Nat) : pw n ≠ 0 ∧ pw n < 256 := by
  rw [← pw_mod]
  exact tab_small _ (List.mem_of_getElem? (tab_at _ (by omega)))

theorem lt_pw (k i : Nat) (hk : k ≤ 255) (hi : i < k) : lt k (pw i) = i := by
  induction k with
  | zero => omega
  | succ k ih =>
    unfold lt
    by_cases e : i = k
    · subst e; simp
    · rw [if_neg (fun h => e (pw_inj i k (by omega) (by omega) h))]
      exact ih (by omega) (by omega)

theorem lg_pw (i : Nat) (hi : i < 255) : lg (pw i) = i := lt_pw 255 i (by omega) hi

theorem is_pw (a : Nat) (h : a < 256) (h0 : a ≠ 0) : ∃ i, i < 255 ∧ pw i = a := by
  obtain ⟨i, hi⟩ := List.getElem?_of_mem (tab_all a h h0)
  have hl : i < 255 := by
    have := (List.getElem?_eq_some_iff.1 hi).1
    rwa [run_len] at this
  exact ⟨i, hl, by rw [tab_at i hl] at hi; exact Option.some.inj hi⟩

theorem lt_lt : ∀ (k x : Nat), k ≤ 256 → lt k x < 256
  | 0, _, _ => by simp [lt]
  | k + 1, x, h => by
    unfold lt
    split
    · omega
    · exact lt_lt k x (by omega)

theorem lg_lt (x : Nat) : lg x < 255 := by
  have : ∀ k, k ≤ 255 → lt k x < 255 := by
    intro k
    induction k with
    | zero => intro _; simp [lt]
    | succ k ih =>
      intro h
      unfold lt
      split
      · omega
      · exact ih (by omega)
  exact this 255 (by omega)

theorem pw_lg (a : Nat) (h : a < 256) (h0 : a ≠ 0) : pw (lg a) = a := by
  obtain ⟨i, hi, rfl⟩ := is_pw a h h0
  rw [lg_pw i hi]

theorem mul_pw (i j : Nat) : mul (pw i) (pw j) = pw (i + j) := by
  unfold mul
  rw [if_neg (by have := pw_bd i; have := pw_bd j; omega)]
  rw [← pw_mod i, ← pw_mod j, lg_pw _ (by omega), lg_pw _ (by omega), pw_mod, ← pw_mod (i + j), ← pw_mod (i % 255 + j % 255)]
  congr 1; omega

theorem mul_zero (a : Nat) : mul a 0 = 0 := by simp [mul]
theorem zero_mul (a : Nat) : mul 0 a = 0 := by simp [mul]
theorem mul_comm (a b : Nat) : mul a b = mul b a := by
  unfold mul
  rw [Nat.add_comm (lg a)]
  by_cases h : a = 0 ∨ b = 0
  · rw [if_pos h, if_pos h.symm]
  · rw [if_neg h, if_neg (fun k => h k.symm)]

theorem mul_lt (a b : Nat) : mul a b < 256 := by
  unfold mul
  split
  · omega
  · exact (pw_bd _).2

theorem mul_ne (a b : Nat) (h : a ≠ 0) (k : b ≠ 0) : mul a b ≠ 0 := by
  unfold mul
  rw [if_neg (by omega)]
  exact (pw_bd _).1

theorem mul_assoc (a b c : Nat) (ha : a < 256) (hb : b < 256) (hc : c < 256) : mul (mul a b) c = mul a (mul b c) := by
  by_cases a0 : a = 0
  · subst a0; simp [zero_mul]
  by_cases b0 : b = 0
  · subst b0; simp [zero_mul, mul_zero]
  by_cases c0 : c = 0
  · subst c0; simp [mul_zero]
  obtain ⟨i, _, rfl⟩ := is_pw a ha a0
  obtain ⟨j, _, rfl⟩ := is_pw b hb b0
  obtain ⟨k, _, rfl⟩ := is_pw c hc c0
  simp only [mul_pw]
  congr 1; omega

def tris : Nat → Nat → Nat
  | 0, x => x
  | n + 1, x => tri (tris n x)
theorem tris_lt : ∀ (n x : Nat), x < 256 → tris n x < 256
  | 0, _, h => h
  | n + 1, x, h => tri_lt _ (tris_lt n x h)
theorem tris_add : ∀ (n a b : Nat), a < 256 → b < 256 → tris n (a ^^^ b) = tris n a ^^^ tris n b
  | 0, _, _, _, _ => rfl
  | n + 1, a, b, ha, hb => by
    show tri (tris n (a ^^^ b)) = tri (tris n a) ^^^ tri (tris n b)
    rw [tris_add n a b ha hb, tri_add _ (tris_lt n a ha) _ (tris_lt n b hb)]
theorem tris_zero : ∀ n, tris n 0 = 0
  | 0 => rfl
  | n + 1 => by show tri (tris n 0) = 0; rw [tris_zero n]; rfl
theorem tris_pw : ∀ n j, tris n (pw j) = pw (n + j)
  | 0, j => by simp [tris]
  | n + 1, j => by
    show tri (tris n (pw j)) = _
    rw [tris_pw n j, show n + 1 + j = (n + j) + 1 from by omega]; rfl
theorem mul_tris (i b : Nat) (hb : b < 256) : mul (pw i) b = tris i b := by
  by_cases b0 : b = 0
  · subst b0; rw [mul_zero, tris_zero]
  · obtain ⟨j, _, rfl⟩ := is_pw b hb b0
    rw [mul_pw, tris_pw]

theorem xor_lt (a b : Nat) (ha : a < 256) (hb : b < 256) : a ^^^ b < 256 := Nat.xor_lt_two_pow (n := 8) ha hb

theorem mul_add (a b c : Nat) (ha : a < 256) (hb : b < 256) (hc : c < 256) : mul a (b ^^^ c) = mul a b ^^^ mul a c := by
  by_cases a0 : a = 0
  · subst a0; simp [zero_mul]
  obtain ⟨i, _, rfl⟩ := is_pw a ha a0
  rw [mul_tris i _ (xor_lt b c hb hc), mul_tris i _ hb, mul_tris i _ hc, tris_add i b c hb hc]

theorem add_mul (a b c : Nat) (ha : a < 256) (hb : b < 256) (hc : c < 256) : mul (a ^^^ b) c = mul a c ^^^ mul b c := by
  rw [mul_comm, mul_add c a b hc ha hb, mul_comm c a, mul_comm c b]

theorem mul_one (a : Nat) (ha : a < 256) : mul a 1 = a := by
  rw [mul_comm, show (1 : Nat) = pw 0 from rfl, mul_tris 0 a ha]; rfl
theorem one_mul (a : Nat) (ha : a < 256) : mul 1 a = a := by rw [mul_comm, mul_one a ha]
theorem mul_three (a : Nat) (ha : a < 256) : mul 3 a = tri a := by
  rw [show (3 : Nat) = pw 1 from by decide +kernel, mul_tris 1 a ha]; rfl
theorem mul_two (a : Nat) (ha : a < 256) : mul 2 a = dbl a := by
  rw [show (2 : Nat) = 3 ^^^ 1 from by decide, add_mul 3 1 a (by omega) (by omega) ha, mul_three a ha, one_mul a ha]
  unfold tri
  rw [Nat.xor_assoc, Nat.xor_self, Nat.xor_zero]

/-! Quotients. -/
theorem quo_lt (a b : Nat) : quo a b < 256 := by
  unfold quo
  split
  · omega
  · exact (pw_bd _).2
theorem quo_mul (a b : Nat) (ha : a < 256) (hb : b < 256) (b0 : b ≠ 0) : mul (quo a b) b = a := by
  obtain ⟨j, hj, rfl⟩ := is_pw b hb b0
  by_cases a0 : a = 0
  · subst a0; simp [quo, zero_mul]
  obtain ⟨i, hi, rfl⟩ := is_pw a ha a0
  unfold quo
  rw [if_neg a0, lg_pw i hi, lg_pw j hj, mul_pw, ← pw_mod, ← pw_mod i]
  congr 1; omega
/-- What is multiplied by an element other than 0 tells the element. -/
theorem mul_cancel (a c b : Nat) (ha : a < 256) (hc : c < 256) (hb : b < 256) (b0 : b ≠ 0) (h : mul a b = mul c b) : a = c := by
  have hq := quo_mul 1 b (by omega) hb b0
  have e1 : mul (mul a b) (quo 1 b) = a := by
    rw [mul_assoc a b _ ha hb (quo_lt _ _), mul_comm b, hq, mul_one a ha]
  have e2 : mul (mul c b) (quo 1 b) = c := by
    rw [mul_assoc c b _ hc hb (quo_lt _ _), mul_comm b, hq, mul_one c hc]
  rw [← e1, ← e2, h]
theorem quo_of (a b d : Nat) (ha : a < 256) (hb : b < 256) (b0 : b ≠ 0) (hd : d < 256) (h : mul d b = a) : quo a b = d :=
  mul_cancel _ _ b (quo_lt _ _) hd hb b0 ((quo_mul a b ha hb b0).trans h.symm)
theorem quo_ne (a b : Nat) (a0 : a ≠ 0) : quo a b ≠ 0 := by
  unfold quo
  rw [if_neg a0]
  exact (pw_bd _).1
theorem quo_inv (a b : Nat) (ha : a < 256) (hb : b < 256) (b0 : b ≠ 0) : quo a b = mul a (quo 1 b) := by
  refine quo_of a b _ ha hb b0 (mul_lt _ _) ?_
  rw [mul_assoc a _ b ha (quo_lt _ _) hb, quo_mul 1 b (by omega) hb b0, mul_one a ha]
theorem inv_inv (b : Nat) (hb : b < 256) (b0 : b ≠ 0) : quo 1 (quo 1 b) = b :=
  quo_of 1 _ b (by omega) (quo_lt _ _) (quo_ne 1 b (by omega)) hb (by rw [mul_comm]; exact quo_mul 1 b (by omega) hb b0)
theorem mul_quo (a b : Nat) (ha : a < 256) (hb : b < 256) (b0 : b ≠ 0) : quo (mul a b) b = a :=
  quo_of _ b a (mul_lt _ _) hb b0 ha rfl
theorem inv_inj (a b : Nat) (ha : a < 256) (hb : b < 256) (a0 : a ≠ 0) (b0 : b ≠ 0) (h : quo 1 a = quo 1 b) : a = b := by
  rw [← inv_inv a ha a0, ← inv_inv b hb b0, h]

/-! Powers. -/
theorem pow_lt (a n : Nat) : pow a n < 256 := by
  unfold pow
  split
  · omega
  · split
    · omega
    · exact (pw_bd _).2
theorem pow_pw (i n : Nat) (hi : i < 255) : pow (pw i) n = pw (i * n) := by
  unfold pow
  by_cases n0 : n = 0
  · subst n0; simp [pw]
  · rw [if_neg n0, if_neg (pw_bd i).1, lg_pw i hi, pw_mod, ← pw_mod (i * (n % 255)), ← pw_mod (i * n)]
    congr 1
    rw [Nat.mul_mod, Nat.mod_mod, ← Nat.mul_mod]
theorem pow_zero (a : Nat) : pow a 0 = 1 := by simp [pow]
theorem zero_pow (n : Nat) (h : n ≠ 0) : pow 0 n = 0 := by simp [pow, h]
theorem pow_succ (a n : Nat) (ha : a < 256) : pow a (n + 1) = mul (pow a n) a := by
  by_cases a0 : a = 0
  · subst a0; rw [zero_pow _ (by omega), mul_zero]
  · obtain ⟨i, hi, rfl⟩ := is_pw a ha a0
    rw [pow_pw i _ hi, pow_pw i _ hi, mul_pw]; rfl
theorem pow_add (a n m : Nat) (ha : a < 256) : pow a (n + m) = mul (pow a n) (pow a m) := by
  by_cases a0 : a = 0
  · subst a0
    by_cases n0 : n = 0
    · subst n0; rw [pow_zero, Nat.zero_add, one_mul _ (pow_lt _ _)]
    · rw [zero_pow n n0, zero_mul, zero_pow _ (by omega)]
  · obtain ⟨i, hi, rfl⟩ := is_pw a ha a0
    rw [pow_pw i _ hi, pow_pw i _ hi, pow_pw i _ hi, mul_pw, Nat.mul_add]
theorem pow_one (a : Nat) (ha : a < 256) : pow a 1 = a := by rw [pow_succ a 0 ha, pow_zero, one_mul a ha]
theorem pow_two (a : Nat) (ha : a < 256) : pow a 2 = mul a a := by rw [pow_succ a 1 ha, pow_one a ha]
theorem pow_255 (a : Nat) (ha : a < 256) (a0 : a ≠ 0) : pow a 255 = 1 := by
  obtain ⟨i, hi, rfl⟩ := is_pw a ha a0
  rw [pow_pw i _ hi, ← pw_mod, Nat.mul_mod_left]; rfl
theorem pow_256 (a : Nat) (ha : a < 256) : pow a 256 = a := by
  by_cases a0 : a = 0
  · subst a0; rfl
  · rw [pow_succ a 255 ha, pow_255 a ha a0, one_mul a ha]
theorem pow_mod (a n : Nat) (ha : a < 256) (a0 : a ≠ 0) : pow a (n % 255) = pow a n := by
  obtain ⟨i, hi, rfl⟩ := is_pw a ha a0
  rw [pow_pw i _ hi, pow_pw i _ hi, ← pw_mod (i * (n % 255)), ← pw_mod (i * n)]
  congr 1
  rw [Nat.mul_mod, Nat.mod_mod, ← Nat.mul_mod]
theorem pow_three (n : Nat) : pow 3 n = pw n := by
  rw [show (3 : Nat) = pw 1 from by decide +kernel, pow_pw 1 n (by omega), Nat.one_mul]
theorem pow_lg (a : Nat) (ha : a < 256) (a0 : a ≠ 0) : pow 3 (lg a) = a := by rw [pow_three, pw_lg a ha a0]
theorem pow_sq (a n : Nat) (ha : a < 256) : pow (mul a a) n = pow a (2 * n) := by
  by_cases a0 : a = 0
  · subst a0
    rw [mul_zero]
    by_cases n0 : n = 0
    · subst n0; rfl
    · rw [zero_pow n n0, zero_pow _ (by omega)]
  · obtain ⟨i, hi, rfl⟩ := is_pw a ha a0
    rw [mul_pw, ← pw_mod (i + i), pow_pw _ n (by omega), pow_pw i _ hi, ← pw_mod, ← pw_mod (i * (2 * n))]
    congr 1
    rw [Nat.mul_mod, Nat.mod_mod, ← Nat.mul_mod]
    congr 1
    rw [← Nat.mul_assoc]
    congr 1; omega

/-- One round of the power by squares. -/
theorem pow_step (o x m : Nat) (ho : o < 256) (hx : x < 256) : mul o (pow x m) = mul (if m % 2 = 1 then mul o x else o) (pow (mul x x) (m / 2)) := by
  rw [pow_sq x _ hx]
  split
  · rename_i h
    rw [mul_assoc o x _ ho hx (pow_lt _ _), mul_comm x, ← pow_succ x _ hx]
    congr 2; omega
  · congr 2; omega

/-! Squares. -/
theorem sq_add (a b : Nat) (ha : a < 256) (hb : b < 256) : pow (a ^^^ b) 2 = pow a 2 ^^^ pow b 2 := by
  have hx := xor_lt a b ha hb
  rw [pow_two _ hx, pow_two a ha, pow_two b hb, mul_add _ a b hx ha hb, add_mul a b a ha hb ha, add_mul a b b ha hb hb, mul_comm b a]
  rw [Nat.xor_assoc, ← Nat.xor_assoc (mul a b), Nat.xor_self, Nat.zero_xor]
theorem xor_zero_iff (a b : Nat) (h : a ^^^ b = 0) : a = b := by
  have e : (a ^^^ b) ^^^ b = a := by rw [Nat.xor_assoc, Nat.xor_self, Nat.xor_zero]
  rw [← e, h, Nat.zero_xor]
theorem sq_inj (a b : Nat) (ha : a < 256) (hb : b < 256) (h : pow a 2 = pow b 2) : a = b := by
  have hx := xor_lt a b ha hb
  have e : pow (a ^^^ b) 2 = 0 := by rw [sq_add a b ha hb, h, Nat.xor_self]
  rw [pow_two _ hx] at e
  refine xor_zero_iff a b (Decidable.byContradiction fun hn => mul_ne _ _ hn hn e)

/-! Logarithms. -/
theorem lg_mul (a b : Nat) (a0 : a ≠ 0) (b0 : b ≠ 0) : lg (mul a b) = (lg a + lg b) % 255 := by
  unfold mul
  rw [if_neg (by omega), lg_pw _ (by omega)]
theorem lg_pow3 (n : Nat) : lg (pow 3 n) = n % 255 := by
  rw [pow_three, ← pw_mod, lg_pw _ (by omega)]
theorem lg_inj (a b : Nat) (ha : a < 256) (hb : b < 256) (a0 : a ≠ 0) (b0 : b ≠ 0) (h : lg a = lg b) : a = b := by
  rw [← pw_lg a ha a0, ← pw_lg b hb b0, h]

/-- One round of the product bit by bit. -/
theorem mul_step (x y : Nat) (hx : x < 256) (hy : y < 256) : mul x y = (if y % 2 = 1 then x else 0) ^^^ mul (dbl x) (y / 2) := by
  have h2 : mul 2 (y / 2) = 2 * (y / 2) := by
    rw [mul_two _ (by omega)]
    unfold dbl
    rw [if_pos (by omega), Nat.xor_zero, Nat.mod_eq_of_lt (by omega)]
  have e : y = (y % 2) ^^^ (2 * (y / 2)) := by
    have hs : ∀ y, y < 256 → y = (y % 2) ^^^ (2 * (y / 2)) := by decide +kernel
    exact hs y hy
  have e2 : mul x (y % 2) = if y % 2 = 1 then x else 0 := by
    rcases Nat.mod_two_eq_zero_or_one y with h | h
    · rw [h, mul_zero]; rfl
    · rw [h, mul_one x hx]; rfl
  have e3 : mul x (2 * (y / 2)) = mul (dbl x) (y / 2) := by
    rw [← h2, ← mul_assoc x 2 _ hx (by omega) (by omega), mul_comm x 2, mul_two x hx]
  conv => lhs; rw [e]
  rw [mul_add x _ _ hx (by omega) (by omega), e2, e3]

end Gf

/-
  The plain mathematics of polynomials over the field with 256 elements, as lists of coefficients, the lowest first: values, sums, products, trimming, division's uniqueness, and that as many values as coefficients tell a polynomial. Conditions: none; nothing of the program is named here.
-/
namespace Pol
open Gf (mul)

/-! ### Sums without carry -/
def xs : Nat → (Nat → Nat) → Nat
  | 0, _ => 0
  | n + 1, f => xs n f ^^^ f n
theorem xs_congr {f g : Nat → Nat} : ∀ n, (∀ i, i < n → f i = g i) → xs n f = xs n g
  | 0, _ => rfl
  | n + 1, h => by simp only [xs]; rw [xs_congr n (fun i hi => h i (by omega)), h n (by omega)]
theorem xs_zero {f : Nat → Nat} : ∀ n, (∀ i, i < n → f i = 0) → xs n f = 0
  | 0, _ => rfl
  | n + 1, h => by simp only [xs]; rw [xs_zero n (fun i hi => h i (by omega)), h n (by omega)]; rfl
theorem xs_shift (f : Nat → Nat) : ∀ n, xs (n + 1) f = f 0 ^^^ xs n (fun i => f (i + 1))
  | 0 => by simp [xs]
  | n + 1 => by rw [xs, xs_shift f n]; simp only [xs]; rw [Nat.xor_assoc]
theorem xor_swap (a b c d : Nat) : (a ^^^ b) ^^^ (c ^^^ d) = (a ^^^ c) ^^^ (b ^^^ d) := by
  rw [Nat.xor_assoc, Nat.xor_assoc, ← Nat.xor_assoc b, ← Nat.xor_assoc c, Nat.xor_comm b c]
theorem xs_add (f g : Nat → Nat) : ∀ n, xs n (fun i => f i ^^^ g i) = xs n f ^^^ xs n g
  | 0 => (Nat.xor_self 0).symm
  | n + 1 => by simp only [xs]; rw [xs_add f g n, xor_swap]
theorem xs_lt {f : Nat → Nat} : ∀ n, (∀ i, i < n → f i < 256) → xs n f < 256
  | 0, _ => by simp [xs]
  | n + 1, h => Gf.xor_lt _ _ (xs_lt n (fun i hi => h i (by omega))) (h n (by omega))
/-- One summand changes. -/
theorem xs_update (f : Nat → Nat) (d c : Nat) : ∀ n, d < n → xs n (fun i => if i = d then f i ^^^ c else f i) = xs n f ^^^ c
  | 0, h => by omega
  | n + 1, h => by
    simp only [xs]
    by_cases e : d = n
    · subst e
      rw [if_pos rfl, xs_congr (g := f) d (fun i hi => if_neg (by omega)), Nat.xor_assoc]
    · rw [if_neg (fun h => e h.symm), xs_update f d c n (by omega), Nat.xor_assoc, Nat.xor_comm c, ← Nat.xor_assoc]
theorem mul_xs (x : Nat) (f : Nat → Nat) (hx : x < 256) : ∀ n, (∀ i, i < n → f i < 256) → mul x (xs n f) = xs n (fun i => mul x (f i))
  | 0, _ => Gf.mul_zero x
  | n + 1, h => by
    simp only [xs]
    rw [Gf.mul_add x _ _ hx (xs_lt n (fun i hi => h i (by omega))) (h n (by omega)), mul_xs x f hx n (fun i hi => h i (by omega))]

/-! ### Coefficients -/
def co (l : List Nat) (i : Nat) : Nat := l[i]?.getD 0
def Sm (l : List Nat) : Prop := ∀ i, co l i < 256
theorem co_nil (i : Nat) : co [] i = 0 := by simp [co]
theorem co_zero (x : Nat) (l : List Nat) : co (x :: l) 0 = x := by simp [co]
theorem co_succ (x : Nat) (l : List Nat) (i : Nat) : co (x :: l) (i + 1) = co l i := by simp [co]
theorem co_out (l : List Nat) (i : Nat) (h : l.length ≤ i) : co l i = 0 := by simp [co, List.getElem?_eq_none h]
theorem co_lt_of {l : List Nat} (h : ∀ x ∈ l, x < 256) : Sm l := fun i => by
  unfold co
  cases hq : l[i]? with
  | none => simp
  | some v => simpa using h v (List.mem_of_getElem? hq)
theorem Sm.mem {l : List Nat} (h : Sm l) : ∀ x ∈ l, x < 256 := fun x hx => by
  obtain ⟨i, hi⟩ := List.getElem?_of_mem hx
  have := h i
  simpa [co, hi] using this
theorem Sm.nil : Sm [] := fun i => by rw [co_nil]; omega
theorem Sm.tail {x : Nat} {l : List Nat} (h : Sm (x :: l)) : Sm l := fun i => by have := h (i + 1); rwa [co_succ] at this
theorem Sm.head {x : Nat} {l : List Nat} (h : Sm (x :: l)) : x < 256 := by have := h 0; rwa [co_zero] at this
theorem Sm.cons {x : Nat} {l : List Nat} (hx : x < 256) (h : Sm l) : Sm (x :: l) := fun i => by
  cases i with
  | zero => rw [co_zero]; exact hx
  | succ i => rw [co_succ]; exact h i

/-! ### Trimming -/
def trim : List Nat → List Nat
  | [] => []
  | x :: l => match trim l with
    | [] => if x = 0 then [] else [x]
    | y :: t => x :: y :: t
theorem trim_cons (x : Nat) (l : List Nat) : trim (x :: l) = if trim l = [] ∧ x = 0 then [] else x :: trim l := by
  rw [trim]
  cases h : trim l with
  | nil => by_cases e : x = 0 <;> simp [e]
  | cons y t => simp
theorem co_trim : ∀ (l : List Nat) (i : Nat), co (trim l) i = co l i
  | [], _ => rfl
  | x :: l, i => by
    rw [trim_cons]
    split
    · rename_i h
      cases i with
      | zero => rw [co_nil, co_zero, h.2]
      | succ i => rw [co_nil, co_succ, ← co_trim l i, h.1, co_nil]
    · cases i with
      | zero => rw [co_zero, co_zero]
      | succ i => rw [co_succ, co_succ, co_trim l i]
theorem trim_ext : ∀ (a b : List Nat), (∀ i, co a i = co b i) → trim a = trim b
  | [], [], _ => rfl
  | [], y :: b, h => by
    have h0 := h 0
    rw [co_nil, co_zero] at h0
    have ih := trim_ext [] b (fun i => by have := h (i + 1); rwa [co_nil, co_succ] at this)
    rw [trim_cons, ← ih, if_pos ⟨rfl, h0.symm⟩]; rfl
  | x :: a, [], h => by
    have h0 := h 0
    rw [co_nil, co_zero] at h0
    have ih := trim_ext a [] (fun i => by have := h (i + 1); rw [co_succ] at this; rw [this, co_nil, co_nil])
    rw [trim_cons, ih, if_pos ⟨rfl, h0⟩]; rfl
  | x :: a, y :: b, h => by
    have h0 := h 0
    rw [co_zero, co_zero] at h0
    have ih := trim_ext a b (fun i => by have := h (i + 1); rwa [co_succ, co_succ] at this)
    rw [trim_cons, trim_cons, ih, h0]
theorem trim_trim (l : List Nat) : trim (trim l) = trim l := trim_ext _ _ (co_trim l)
theorem trim_len (l : List Nat) : (trim l).length ≤ l.length := by
  induction l with
  | nil => simp [trim]
  | cons x l ih =>
    rw [trim_cons]
    split
    · simp
    · simp; exact ih
theorem trim_le : ∀ (l : List Nat) (n : Nat), (∀ i, n ≤ i → co l i = 0) → (trim l).length ≤ n
  | [], n, _ => by simp [trim]
  | x :: l, 0, h => by
    have : trim (x :: l) = trim [] := trim_ext _ _ (fun i => by rw [h i (by omega), co_nil])
    rw [this]; simp [trim]
  | x :: l, n + 1, h => by
    have := trim_le l n (fun i hi => by have := h (i + 1) (by omega); rwa [co_succ] at this)
    rw [trim_cons]
    split
    · simp
    · simp; exact this
/-- The last coefficient of what is trimmed is not 0. -/
theorem trim_last : ∀ (l : List Nat), trim l ≠ [] → co l ((trim l).length - 1) ≠ 0
  | [], h => absurd rfl h
  | x :: l, h => by
    rw [trim_cons] at h ⊢
    by_cases e : trim l = [] ∧ x = 0
    · rw [if_pos e] at h; exact absurd rfl h
    · rw [if_neg e]
      by_cases t : trim l = []
      · rw [t]; simp only [List.length_cons, List.length_nil]
        show co (x :: l) 0 ≠ 0
        rw [co_zero]; exact fun h => e ⟨t, h⟩
      · have := trim_last l t
        have hl : 0 < (trim l).length := List.length_pos_iff.2 t
        rw [List.length_cons, show (trim l).length + 1 - 1 = ((trim l).length - 1) + 1 from by omega, co_succ]
        exact this
theorem trim_of (l : List Nat) (n : Nat) (hn : n ≤ l.length) (h : ∀ i, n ≤ i → co l i = 0) (h1 : n = 0 ∨ co l (n - 1) ≠ 0) : trim l = l.take n := by
  have hlen : (trim l).length = n := by
    have h2 := trim_le l n h
    rcases h1 with rfl | h1
    · omega
    · rcases Nat.lt_or_ge (trim l).length n with hlt | hge
      · have := co_trim l (n - 1)
        rw [co_out (trim l) (n - 1) (by omega)] at this
        exact absurd this.symm h1
      · omega
  apply List.ext_getElem?
  intro i
  by_cases hi : i < n
  · have e := co_trim l i
    unfold co at e
    rw [List.getElem?_take, if_pos hi, List.getElem?_eq_getElem (by omega), List.getElem?_eq_getElem (by omega)]
    rw [List.getElem?_eq_getElem (by omega), List.getElem?_eq_getElem (by omega)] at e
    simpa using e
  · rw [List.getElem?_eq_none (by omega), List.getElem?_eq_none (by simp; omega)]
theorem trim_fix (l : List Nat) (h : l = [] ∨ co l (l.length - 1) ≠ 0) : trim l = l := by
  rw [trim_of l l.length (Nat.le_refl _) (fun i hi => co_out l i hi) (by rcases h with rfl | h; exact .inl rfl; exact .inr h), List.take_length]
theorem Sm.trim {l : List Nat} (h : Sm l) : Sm (trim l) := fun i => by rw [co_trim]; exact h i

/-! ### Values -/
def ev : List Nat → Nat → Nat
  | [], _ => 0
  | a :: l, x => a ^^^ mul x (ev l x)
theorem ev_lt : ∀ (l : List Nat) (x : Nat), Sm l → ev l x < 256
  | [], _, _ => by simp [ev]
  | a :: l, x, h => Gf.xor_lt _ _ h.head (Gf.mul_lt _ _)
theorem ev_all_zero : ∀ (l : List Nat) (x : Nat), (∀ i, co l i = 0) → ev l x = 0
  | [], _, _ => rfl
  | a :: l, x, h => by
    have h0 := h 0
    rw [co_zero] at h0
    rw [ev, h0, ev_all_zero l x (fun i => by have := h (i + 1); rwa [co_succ] at this), Gf.mul_zero]; rfl
theorem ev_congr : ∀ (a b : List Nat) (x : Nat), (∀ i, co a i = co b i) → ev a x = ev b x
  | [], b, x, h => by rw [ev_all_zero b x (fun i => by rw [← h i, co_nil])]; rfl
  | x' :: a, [], x, h => by rw [ev_all_zero (x' :: a) x (fun i => by rw [h i, co_nil])]; rfl
  | x' :: a, y :: b, x, h => by
    have h0 := h 0
    rw [co_zero, co_zero] at h0
    rw [ev, ev, h0, ev_congr a b x (fun i => by have := h (i + 1); rwa [co_succ, co_succ] at this)]
theorem ev_trim (l : List Nat) (x : Nat) : ev (trim l) x = ev l x := ev_congr _ _ _ (co_trim l)
/-- The value, power by power. -/
theorem ev_pow : ∀ (l : List Nat) (x : Nat), Sm l → x < 256 → ev l x = xs l.length (fun i => mul (co l i) (Gf.pow x i))
  | [], _, _, _ => rfl
  | a :: l, x, h, hx => by
    have hl := h.tail
    rw [ev, ev_pow l x hl hx, mul_xs x _ hx _ (fun i _ => Gf.mul_lt _ _), List.length_cons, xs_shift]
    rw [co_zero, Gf.pow_zero, Gf.mul_one a h.head]
    congr 1
    apply xs_congr
    intro i _
    rw [co_succ, Gf.pow_succ x i hx, Gf.mul_comm (Gf.pow x i) x, ← Gf.mul_assoc _ _ _ (hl i) hx (Gf.pow_lt _ _), ← Gf.mul_assoc _ _ _ hx (hl i) (Gf.pow_lt _ _), Gf.mul_comm x]

/-! ### Sums -/
def addP : List Nat → List Nat → List Nat
  | [], b => b
  | a, [] => a
  | x :: a, y :: b => (x ^^^ y) :: addP a b
theorem addP_nil (a : List Nat) : addP a [] = a := by cases a <;> rfl
theorem co_addP : ∀ (a b : List Nat) (i : Nat), co (addP a b) i = co a i ^^^ co b i
  | [], b, i => by rw [addP, co_nil, Nat.zero_xor]
  | x :: a, [], i => by rw [addP_nil, co_nil, Nat.xor_zero]
  | x :: a, y :: b, 0 => by rw [addP, co_zero, co_zero, co_zero]
  | x :: a, y :: b, i + 1 => by rw [addP, co_succ, co_succ, co_succ, co_addP a b i]
theorem addP_len : ∀ (a b : List Nat), (addP a b).length = max a.length b.length
  | [], b => by simp [addP]
  | x :: a, [] => by simp [addP]
  | x :: a, y :: b => by simp only [addP, List.length_cons, addP_len a b]; omega
theorem Sm.add {a b : List Nat} (ha : Sm a) (hb : Sm b) : Sm (addP a b) := fun i => by rw [co_addP]; exact Gf.xor_lt _ _ (ha i) (hb i)
theorem ev_addP : ∀ (a b : List Nat) (x : Nat), Sm a → Sm b → x < 256 → ev (addP a b) x = ev a x ^^^ ev b x
  | [], b, x, _, _, _ => by rw [addP, ev, Nat.zero_xor]
  | y :: a, [], x, _, _, _ => by rw [addP_nil, ev, ev, Nat.xor_zero]
  | y :: a, z :: b, x, ha, hb, hx => by
    rw [addP, ev, ev, ev, ev_addP a b x ha.tail hb.tail hx, Gf.mul_add x _ _ hx (ev_lt a x ha.tail) (ev_lt b x hb.tail), xor_swap]

/-! ### Products -/
def scale (c : Nat) (l : List Nat) : List Nat := l.map (mul c)
theorem co_scale (c : Nat) (l : List Nat) (i : Nat) : co (scale c l) i = mul c (co l i) := by
  unfold co scale
  rw [List.getElem?_map]
  cases l[i]? with
  | none => simp [Gf.mul_zero]
  | some v => simp
theorem Sm.scale (c : Nat) (l : List Nat) : Sm (scale c l) := fun i => by rw [co_scale]; exact Gf.mul_lt _ _
theorem ev_scale (c : Nat) (hc : c < 256) : ∀ (l : List Nat) (x : Nat), Sm l → x < 256 → ev (scale c l) x = mul c (ev l x)
  | [], x, _, _ => (Gf.mul_zero c).symm
  | a :: l, x, h, hx => by
    show mul c a ^^^ mul x (ev (scale c l) x) = mul c (a ^^^ mul x (ev l x))
    rw [ev_scale c hc l x h.tail hx, Gf.mul_add c _ _ hc h.head (Gf.mul_lt _ _), ← Gf.mul_assoc x c _ hx hc (ev_lt l x h.tail), ← Gf.mul_assoc c x _ hc hx (ev_lt l x h.tail), Gf.mul_comm x c]
def mulP : List Nat → List Nat → List Nat
  | [], _ => []
  | x :: a, b => addP (scale x b) (0 :: mulP a b)
theorem Sm.mul (a b : List Nat) : Sm (mulP a b) := by
  induction a with
  | nil => exact Sm.nil
  | cons x a ih => exact (Sm.scale x b).add (Sm.cons (by omega) ih)
theorem ev_mulP : ∀ (a b : List Nat) (x : Nat), Sm a → Sm b → x < 256 → ev (mulP a b) x = Gf.mul (ev a x) (ev b x)
  | [], b, x, _, _, _ => (Gf.zero_mul _).symm
  | y :: a, b, x, ha, hb, hx => by
    have h0 : Sm (0 :: mulP a b) := Sm.cons (by omega) (Sm.mul a b)
    rw [mulP, ev_addP _ _ x (Sm.scale y b) h0 hx, ev_scale y ha.head b x hb hx, ev, ev, Nat.zero_xor, ev_mulP a b x ha.tail hb hx]
    rw [Gf.add_mul _ _ _ ha.head (Gf.mul_lt _ _) (ev_lt b x hb), Gf.mul_assoc x _ _ hx (ev_lt a x ha.tail) (ev_lt b x hb)]
/-- A product's coefficient, summand by summand. -/
def pc (n : Nat) (A B : Nat → Nat) (j : Nat) : Nat := xs n (fun i => if i ≤ j then mul (A i) (B (j - i)) else 0)
theorem co_mulP : ∀ (a b : List Nat) (j : Nat), co (mulP a b) j = pc a.length (co a) (co b) j
  | [], b, j => by rw [mulP, co_nil]; rfl
  | x :: a, b, 0 => by
    rw [mulP, co_addP, co_scale, co_zero, Nat.xor_zero]
    unfold pc
    rw [List.length_cons, xs_shift, if_pos (Nat.le_refl _), co_zero, xs_zero a.length (fun i _ => if_neg (by omega)), Nat.xor_zero]
  | x :: a, b, j + 1 => by
    rw [mulP, co_addP, co_scale, co_succ, co_mulP a b j]
    unfold pc
    rw [List.length_cons, xs_shift, if_pos (by omega), co_zero]
    congr 1
    apply xs_congr
    intro i _
    simp only [co_succ, Nat.add_sub_add_right, Nat.add_le_add_iff_right]
theorem pc_more (A B : Nat → Nat) (n m j : Nat) (hA : ∀ i, n ≤ i → A i = 0) (h : n ≤ m) : pc m A B j = pc n A B j := by
  obtain ⟨d, rfl⟩ : ∃ d, m = n + d := ⟨m - n, by omega⟩
  induction d with
  | zero => rfl
  | succ d ih =>
    have := ih (by omega)
    unfold pc at this ⊢
    rw [show n + (d + 1) = (n + d) + 1 from rfl, xs, this, hA (n + d) (by omega), Gf.zero_mul]
    simp
/-- A coefficient more, at one place. -/
theorem pc_update (n : Nat) (A B : Nat → Nat) (d c j : Nat) (hd : d < n) (hA : ∀ i, A i < 256) (hB : ∀ i, B i < 256) (hc : c < 256) :
    pc n (fun i => if i = d then A i ^^^ c else A i) B j = pc n A B j ^^^ (if d ≤ j then mul c (B (j - d)) else 0) := by
  have e := xs_update (fun i => if i ≤ j then mul (A i) (B (j - i)) else 0) d (if d ≤ j then mul c (B (j - d)) else 0) n hd
  unfold pc
  rw [← e]
  apply xs_congr
  intro i _
  by_cases hi : i = d
  · subst hi
    simp only [if_true]
    by_cases hj : i ≤ j
    · rw [if_pos hj, if_pos hj, if_pos hj, Gf.add_mul _ _ _ (hA i) hc (hB _)]
    · rw [if_neg hj, if_neg hj, if_neg hj]; rfl
  · simp only [if_neg hi]
theorem mulP_len (a b : List Nat) (j : Nat) (h : a.length + b.length ≤ j + 1) (hb : b ≠ []) : co (mulP a b) j = 0 := by
  have hl : 0 < b.length := List.length_pos_iff.2 hb
  rw [co_mulP]
  apply xs_zero
  intro i hi
  by_cases hj : i ≤ j
  · rw [if_pos hj, co_out b _ (by omega), Gf.mul_zero]
  · rw [if_neg hj]
theorem mulP_nil (a : List Nat) (j : Nat) : co (mulP a []) j = 0 := by
  rw [co_mulP]
  apply xs_zero
  intro i _
  rw [co_nil, Gf.mul_zero]; simp

/-! ### As many values as coefficients tell a polynomial -/
def sd (c : Nat) : List Nat → List Nat
  | [] => []
  | _ :: l => ev l c :: sd c l
theorem sd_sm (c : Nat) : ∀ (l : List Nat), Sm l → Sm (sd c l)
  | [], _ => Sm.nil
  | _ :: l, h => Sm.cons (ev_lt l c h.tail) (sd_sm c l h.tail)
theorem sd_len (c : Nat) : ∀ (l : List Nat), (sd c l).length = l.length
  | [] => rfl
  | _ :: l => by simp [sd, sd_len c l]
theorem sd_top (c : Nat) : ∀ (l : List Nat) (i : Nat), l.length ≤ i + 1 → co (sd c l) i = 0
  | [], i, _ => co_nil i
  | [_], 0, _ => by simp [sd, co, ev]
  | a :: b :: l, 0, h => by simp at h
  | _ :: l, i + 1, h => by
    rw [sd, co_succ]
    exact sd_top c l i (by simpa using h)
theorem ev_sd (c : Nat) (hc : c < 256) : ∀ (l : List Nat) (y : Nat), Sm l → y < 256 → ev l y = mul (y ^^^ c) (ev (sd c l) y) ^^^ ev l c
  | [], y, _, _ => by simp [ev, sd, Gf.mul_zero]
  | a :: l, y, h, hy => by
    have hl := h.tail
    have hv := ev_lt l c hl
    have hs := ev_lt (sd c l) y (sd_sm c l hl)
    have hx := Gf.xor_lt y c hy hc
    have ih := ev_sd c hc l y hl hy
    simp only [ev, sd]
    generalize ev l c = v at *
    generalize ev (sd c l) y = s at *
    rw [ih, Gf.mul_add y _ _ hy (Gf.mul_lt _ _) hv, Gf.mul_add _ _ _ hx hv (Gf.mul_lt _ _), Gf.add_mul y c v hy hc hv]
    rw [← Gf.mul_assoc y _ _ hy hx hs, ← Gf.mul_assoc _ y _ hx hy hs, Gf.mul_comm y (y ^^^ c)]
    generalize mul (mul (y ^^^ c) y) s = p
    generalize mul y v = q
    generalize mul c v = r
    apply Nat.eq_of_testBit_eq
    intro i
    simp only [Nat.testBit_xor]
    cases a.testBit i <;> cases p.testBit i <;> cases q.testBit i <;> cases r.testBit i <;> rfl
/-- The coefficients, out of those of the quotient by x + c. -/
theorem co_sd (c : Nat) : ∀ (l : List Nat), Sm l → ev l c = 0 → ∀ i, co l i = (if i = 0 then 0 else co (sd c l) (i - 1)) ^^^ mul c (co (sd c l) i)
  | [], _, _, i => by
    rw [sd, co_nil, co_nil, Gf.mul_zero]; split <;> simp
  | a :: l, h, h0, 0 => by
    have : a ^^^ mul c (ev l c) = 0 := h0
    rw [if_pos rfl, co_zero, sd, co_zero, Nat.zero_xor]
    exact Gf.xor_zero_iff _ _ this
  | a :: l, h, h0, i + 1 => by
    rw [if_neg (by omega), co_succ, sd, Nat.add_sub_cancel, co_succ]
    have key : ∀ (l : List Nat) (i : Nat), Sm l → co l i = (if i = 0 then ev l c else co (sd c l) (i - 1)) ^^^ mul c (co (sd c l) i) := by
      intro l
      induction l with
      | nil => intro i _; rw [sd, co_nil, co_nil, Gf.mul_zero]; cases i <;> simp [ev]
      | cons b l ih =>
        intro i hs
        cases i with
        | zero =>
          rw [if_pos rfl, co_zero, sd, co_zero]
          show b = (b ^^^ mul c (ev l c)) ^^^ mul c (ev l c)
          rw [Nat.xor_assoc, Nat.xor_self, Nat.xor_zero]
        | succ i =>
          rw [if_neg (by omega), co_succ, sd, Nat.add_sub_cancel, co_succ, ih i hs.tail]
          cases i with
          | zero => rw [if_pos rfl, co_zero]
          | succ i => rw [if_neg (by omega), Nat.add_sub_cancel, co_succ]
    rw [key l i h.tail]
    cases i with
    | zero => rw [if_pos rfl, co_zero]
    | succ i => rw [if_neg (by omega), Nat.add_sub_cancel, co_succ]
theorem roots : ∀ (n : Nat) (l ps : List Nat), ps.length = n → ps.Nodup → (∀ p ∈ ps, p < 256) → Sm l → (∀ i, n ≤ i → co l i = 0) → (∀ p ∈ ps, ev l p = 0) → ∀ i, co l i = 0
  | 0, l, ps, _, _, _, _, hz, _, i => hz i (by omega)
  | n + 1, l, [], hn, _, _, _, _, _, _ => by simp at hn
  | n + 1, l0, c :: ps, hn, hd, hp, hs, hz, hr, i => by
    -- the list, cut to n + 1 coefficients
    have hc : c < 256 := hp c (by simp)
    let l := l0.take (n + 1)
    have hco : ∀ i, co l i = co l0 i := fun i => by
      show co (l0.take (n + 1)) i = co l0 i
      unfold co
      rw [List.getElem?_take]
      by_cases h : i < n + 1
      · rw [if_pos h]
      · rw [if_neg h]
        have := hz i (by omega)
        unfold co at this
        simpa using this.symm
    have hlen : l.length ≤ n + 1 := by simp [l]; omega
    have hsl : Sm l := fun i => by rw [hco]; exact hs i
    have hev : ∀ x, ev l x = ev l0 x := fun x => ev_congr _ _ _ hco
    have hq := sd_sm c l hsl
    have h0 : ev l c = 0 := by rw [hev]; exact hr c (by simp)
    have ih := roots n (sd c l) ps (by simpa using hn) (List.nodup_cons.1 hd).2 (fun p h => hp p (by simp [h])) hq
      (fun i hi => sd_top c l i (by omega)) (fun p h => by
        have hpl : p < 256 := hp p (by simp [h])
        have e := ev_sd c hc l p hsl hpl
        rw [h0, Nat.xor_zero, hev, hr p (by simp [h])] at e
        have hne : p ^^^ c ≠ 0 := fun k => (List.nodup_cons.1 hd).1 (by rw [← Gf.xor_zero_iff p c k]; exact h)
        exact Decidable.byContradiction fun hk => Gf.mul_ne _ _ hne hk e.symm)
    rw [← hco, co_sd c l hsl h0 i, ih i, Gf.mul_zero, Nat.xor_zero]
    split
    · rfl
    · exact ih _
/-- Two polynomials of fewer coefficients than places at which they meet are one. -/
theorem meet (n : Nat) (a b ps : List Nat) (hn : ps.length = n) (hd : ps.Nodup) (hp : ∀ p ∈ ps, p < 256) (ha : Sm a) (hb : Sm b)
    (hla : ∀ i, n ≤ i → co a i = 0) (hlb : ∀ i, n ≤ i → co b i = 0) (h : ∀ p ∈ ps, ev a p = ev b p) : ∀ i, co a i = co b i := fun i => by
  have := roots n (addP a b) ps hn hd hp (ha.add hb) (fun i hi => by rw [co_addP, hla i hi, hlb i hi]; rfl)
    (fun p hpm => by rw [ev_addP a b p ha hb (hp p hpm), h p hpm, Nat.xor_self]) i
  rw [co_addP] at this
  exact Gf.xor_zero_iff _ _ this

/-! ### Products are linear, and degrees add up -/
theorem pc_add_left (n : Nat) (A C B : Nat → Nat) (j : Nat) (hA : ∀ i, A i < 256) (hC : ∀ i, C i < 256) (hB : ∀ i, B i < 256) :
    pc n (fun i => A i ^^^ C i) B j = pc n A B j ^^^ pc n C B j := by
  unfold pc
  rw [← xs_add]
  apply xs_congr
  intro i _
  by_cases h : i ≤ j
  · simp only [if_pos h]; exact Gf.add_mul _ _ _ (hA i) (hC i) (hB _)
  · simp only [if_neg h]; rfl
theorem pc_add_right (n : Nat) (A B C : Nat → Nat) (j : Nat) (hA : ∀ i, A i < 256) (hB : ∀ i, B i < 256) (hC : ∀ i, C i < 256) :
    pc n A (fun i => B i ^^^ C i) j = pc n A B j ^^^ pc n A C j := by
  unfold pc
  rw [← xs_add]
  apply xs_congr
  intro i _
  by_cases h : i ≤ j
  · simp only [if_pos h]; exact Gf.mul_add _ _ _ (hA i) (hB _) (hC _)
  · simp only [if_neg h]; rfl
theorem co_mulP_of (a b : List Nat) (n j : Nat) (h : a.length ≤ n) : co (mulP a b) j = pc n (co a) (co b) j := by
  rw [co_mulP, pc_more (co a) (co b) a.length n j (fun i hi => co_out a i hi) h]
theorem pc_congr {A A' B B' : Nat → Nat} (n j : Nat) (hA : ∀ i, A i = A' i) (hB : ∀ i, B i = B' i) : pc n A B j = pc n A' B' j := by
  unfold pc
  apply xs_congr
  intro i _
  rw [hA, hB]
theorem mulP_congr (a b a' b' : List Nat) (ha : ∀ i, co a i = co a' i) (hb : ∀ i, co b i = co b' i) (j : Nat) : co (mulP a b) j = co (mulP a' b') j := by
  rw [co_mulP_of a b (max a.length a'.length) j (by omega), co_mulP_of a' b' (max a.length a'.length) j (by omega)]
  exact pc_congr _ _ ha hb
theorem mulP_add_left (a c b : List Nat) (ha : Sm a) (hc : Sm c) (hb : Sm b) (j : Nat) : co (mulP (addP a c) b) j = co (mulP a b) j ^^^ co (mulP c b) j := by
  rw [co_mulP_of (addP a c) b (max a.length c.length) j (by rw [addP_len]; omega), co_mulP_of a b (max a.length c.length) j (by omega), co_mulP_of c b (max a.length c.length) j (by omega)]
  rw [← pc_add_left _ _ _ _ _ ha hc hb]
  exact pc_congr _ _ (co_addP a c) (fun _ => rfl)
theorem mulP_add_right (a b c : List Nat) (ha : Sm a) (hb : Sm b) (hc : Sm c) (j : Nat) : co (mulP a (addP b c)) j = co (mulP a b) j ^^^ co (mulP a c) j := by
  rw [co_mulP, co_mulP, co_mulP, ← pc_add_right _ _ _ _ _ ha hb hc]
  exact pc_congr _ _ (fun _ => rfl) (co_addP b c)
theorem xs_single (f : Nat → Nat) (d : Nat) : ∀ n, d < n → (∀ i, i < n → i ≠ d → f i = 0) → xs n f = f d
  | 0, h, _ => by omega
  | n + 1, h, hz => by
    rw [xs]
    by_cases e : d = n
    · subst e; rw [xs_zero d (fun i hi => hz i (by omega) (by omega)), Nat.zero_xor]
    · rw [xs_single f d n (by omega) (fun i hi => hz i (by omega)), hz n (by omega) (fun h => e h.symm), Nat.xor_zero]
theorem mulP_top (a b : List Nat) (da db : Nat) (ha : ∀ i, da < i → co a i = 0) (hb : ∀ i, db < i → co b i = 0) : co (mulP a b) (da + db) = mul (co a da) (co b db) := by
  rw [co_mulP_of a b (max a.length (da + 1)) _ (by omega)]
  unfold pc
  rw [xs_single _ da _ (by omega), if_pos (by omega), Nat.add_sub_cancel_left]
  intro i _ hne
  rcases Nat.lt_or_gt_of_ne hne with h | h
  · rw [if_pos (by omega), hb _ (by omega), Gf.mul_zero]
  · rw [ha i h, Gf.zero_mul]; simp
theorem mulP_above (a b : List Nat) (da db : Nat) (ha : ∀ i, da < i → co a i = 0) (hb : ∀ i, db < i → co b i = 0) (j : Nat) (hj : da + db < j) : co (mulP a b) j = 0 := by
  rw [co_mulP]
  apply xs_zero
  intro i _
  by_cases h : da < i
  · rw [ha i h, Gf.zero_mul]; simp
  · by_cases k : i ≤ j
    · rw [if_pos k, hb _ (by omega), Gf.mul_zero]
    · rw [if_neg k]
/-- The greatest place of a coefficient that is not 0. -/
theorem top_of (l : List Nat) (h : trim l ≠ []) : co l ((trim l).length - 1) ≠ 0 ∧ ∀ i, (trim l).length - 1 < i → co l i = 0 :=
  ⟨trim_last l h, fun i hi => by rw [← co_trim, co_out _ i (by omega)]⟩
theorem trim_nil_iff (l : List Nat) : trim l = [] ↔ ∀ i, co l i = 0 :=
  ⟨fun h i => by rw [← co_trim, h, co_nil], fun h => trim_ext l [] (fun i => by rw [h i, co_nil])⟩
theorem trim_len_top (l : List Nat) (d : Nat) (h : co l d ≠ 0) (hz : ∀ i, d < i → co l i = 0) : (trim l).length = d + 1 := by
  have h1 := trim_le l (d + 1) (fun i hi => hz i (by omega))
  rcases Nat.lt_or_ge (trim l).length (d + 1) with hlt | hge
  · exact absurd (by rw [← co_trim, co_out _ d (by omega)]) h
  · omega
/-- Quotient and rest are told by what they make. -/
theorem div_one (q a b r : List Nat) (db : Nat) (hq : Sm q) (ha : Sm a) (hb : Sm b) (hb0 : co b db ≠ 0) (hbz : ∀ i, db < i → co b i = 0) (hr : ∀ i, db ≤ i → co r i = 0)
    (h : ∀ j, co (mulP q b) j ^^^ co r j = co (mulP a b) j) : (∀ i, co q i = co a i) ∧ ∀ i, co r i = 0 := by
  have hd : ∀ j, co (mulP (addP q a) b) j = co r j := fun j => by
    rw [mulP_add_left q a b hq ha hb, ← h j, ← Nat.xor_assoc, Nat.xor_self, Nat.zero_xor]
  have hz : ∀ i, co (addP q a) i = 0 := by
    refine (trim_nil_iff _).1 (Decidable.byContradiction fun hne => ?_)
    obtain ⟨t1, t2⟩ := top_of _ hne
    have := mulP_top (addP q a) b _ db t2 hbz
    rw [hd, hr _ (by omega)] at this
    exact Gf.mul_ne _ _ t1 hb0 this.symm
  have hqa : ∀ i, co q i = co a i := fun i => Gf.xor_zero_iff _ _ (by rw [← co_addP]; exact hz i)
  refine ⟨hqa, fun i => ?_⟩
  have e := h i
  rw [mulP_congr q b a b hqa (fun _ => rfl)] at e
  have := Gf.xor_zero_iff (co (mulP a b) i ^^^ co r i) (co (mulP a b) i) (by rw [e, Nat.xor_self])
  have k : co r i = co (mulP a b) i ^^^ (co (mulP a b) i ^^^ co r i) := by rw [← Nat.xor_assoc, Nat.xor_self, Nat.zero_xor]
  rw [k, this, Nat.xor_self]
theorem div_two (q q' b r r' : List Nat) (db : Nat) (hq : Sm q) (hq' : Sm q') (hb : Sm b) (hb0 : co b db ≠ 0) (hbz : ∀ i, db < i → co b i = 0) (hr : ∀ i, db ≤ i → co r i = 0) (hr' : ∀ i, db ≤ i → co r' i = 0)
    (h : ∀ j, co (mulP q b) j ^^^ co r j = co (mulP q' b) j ^^^ co r' j) : (∀ i, co q i = co q' i) ∧ ∀ i, co r i = co r' i := by
  have := div_one q q' b (addP r r') db hq hq' hb hb0 hbz (fun i hi => by rw [co_addP, hr i hi, hr' i hi]; rfl) (fun j => by
    rw [co_addP, ← Nat.xor_assoc, h j, Nat.xor_assoc, Nat.xor_self, Nat.xor_zero])
  exact ⟨this.1, fun i => Gf.xor_zero_iff _ _ (by rw [← co_addP]; exact this.2 i)⟩
end Pol

/-
  Small laws on worlds and on operations over whole arrays, of no program in particular: what is new, what stays, a load and a store of a whole array, a struct that is built of two arrays. Conditions: none.
-/
namespace Go.Proofs.Ytjedogkfllddaaa
open Go.RowKit

theorem ret_int {k : IntKind} {a b : Int} (h : a = b) : Ending.returned (.int k a) = .returned (.int k b) := by rw [h]

theorem ret_two {k k' : IntKind} {a b c : Int} (h : a = b) : Ending.returned (.tuple #[.int k a, .int k' c]) = .returned (.tuple #[.int k b, .int k' c]) := by rw [h]

/-- A call that hands back v and changes nothing but how often the tape was asked. -/
def Hands (v : Value) (w : World) (e : Ending) (w' : World) : Prop := e = .returned v ∧ ∃ n, w' = w.drewN n

theorem nat_u8 {n : Int} (h : (Lit.int .u8 n).wf = true) : ∃ x : Nat, n = (x : Int) ∧ x < 256 := by
  have := bounds_u8 h
  exact ⟨n.toNat, by omega, by omega⟩
theorem nat_u32 {n : Int} (h : (Lit.int .u32 n).wf = true) : ∃ x : Nat, n = (x : Int) ∧ x < 4294967296 := by
  have := bounds_u32 h
  exact ⟨n.toNat, by omega, by omega⟩
theorem nat_u64 {n : Int} (h : (Lit.int .u64 n).wf = true) : ∃ x : Nat, n = (x : Int) ∧ x < 18446744073709551616 := by
  have := bounds_u64 h
  exact ⟨n.toNat, by omega, by omega⟩

/-- New blocks alone: nothing that was there has changed. -/
structure Ext (w w' : World) : Prop where
  below : Below w.heap.size w w'
theorem Ext.refl (w : World) : Ext w w := ⟨Below.refl _ _⟩
theorem Ext.size {w w' : World} (h : Ext w w') : w.heap.size ≤ w'.heap.size := h.below.size
theorem Ext.trans {a b c : World} (h : Ext a b) (k : Ext b c) : Ext a c := ⟨h.below.trans (k.below.mono h.size)⟩
theorem Ext.alloc {a w : World} (h : Ext a w) (o : Obj) : Ext a (w.alloc o) := ⟨h.below.alloc h.size o⟩
theorem Ext.drewN {a w : World} (h : Ext a w) (n : Nat) : Ext a (w.drewN n) := ⟨⟨h.below.os, h.below.tape, h.below.output, h.below.size, h.below.block⟩⟩
theorem Ext.drew {a w : World} (h : Ext a w) : Ext a w.drew := h.drewN 1
theorem Ext.setCell {a w : World} (h : Ext a w) {p : Addr} (hp : a.heap.size ≤ p.block) (v : Value) : Ext a (w.setCell p v) := ⟨h.below.setCell hp v⟩
theorem Ext.setRow {a w : World} (h : Ext a w) {g : Nat} (hg : a.heap.size ≤ g) (c : Array Value) : Ext a (w.setRow g c) :=
  ⟨h.below.trans ⟨rfl, rfl, rfl, by simp, fun k hk => setRow_other w g k c (by omega)⟩⟩
/-- Behind a law that ends in 'grownBy': what was written is new. -/
theorem Ext.more {a w w' : World} {row : Option Nat} (h : Ext a w) (hg : w.grownBy w' row) (hr : ∀ k, row = some k → a.heap.size ≤ k) : Ext a w' := ⟨h.below.grown hg h.size hr⟩

/-- The law answers true; nothing that was there has changed. -/
def Holds (w : World) (e : Ending) (w' : World) : Prop := e = .returned (.bool true) ∧ Ext w w'

theorem quiet_same {P : Program} {f : FuncId} {args : Array Value} {w : World} {n : Nat} {v : Value}
    (h : Calls P f args (w.drewN n) fun e w' => e = .returned v ∧ w.drewN n = w') : Calls P f args (w.drewN n) fun e w'' => e = .returned v ∧ ∃ m, w'' = w.drewN m :=
  h.mono fun _ _ ⟨he, hm⟩ => ⟨he, n, hm.symm⟩
theorem quiet_hands {P : Program} {f : FuncId} {args : Array Value} {w : World} {n : Nat} {v : Value}
    (h : Calls P f args (w.drewN n) (Hands v (w.drewN n))) : Calls P f args (w.drewN n) fun e w'' => e = .returned v ∧ ∃ m, w'' = w.drewN m :=
  h.mono fun _ _ ⟨he, m, hm⟩ => ⟨he, n + m, by rw [hm, World.drewN_drewN]⟩

section
variable {P : Program} {ops : Array Oper} {C : World → Prop} {Q : Act → Prop}
theorem wpQuiet_load {o : Oper} {rest : List Oper} {a : Act} (hgd : o.guard = none) (ty : TypeId) (x : Operand) (ho : o.op = .load ty x) (v : Value)
    (hrun : ∀ w, C w → (Instr.loadAt ty (a.eval x)).run P w = .ok v w) (h : wpQuiet P ops C Q rest (a.put o.dst v)) : wpQuiet P ops C Q (o :: rest) a := by
  unfold wpQuiet
  rw [if_pos (by simp [Region.wanted, hgd])]
  refine ⟨v, fun w hw => ?_, h⟩
  unfold Oper.quietAt
  simp only [execOp, ho, Sem.run_bind, hrun w hw, Result.andThen, Sem.run_pure]
  exact ⟨rfl, rfl⟩
theorem wpQuiet_store {o : Oper} {rest : List Oper} {a : Act} (hgd : o.guard = none) (ty : TypeId) (x y : Operand) (ho : o.op = .store ty x y)
    (hrun : ∀ w, C w → (Instr.storeAt ty (a.eval x) (a.eval y)).run P w = .ok () w) (h : wpQuiet P ops C Q rest (a.put o.dst undef)) : wpQuiet P ops C Q (o :: rest) a := by
  unfold wpQuiet
  rw [if_pos (by simp [Region.wanted, hgd])]
  refine ⟨undef, fun w hw => ?_, h⟩
  unfold Oper.quietAt
  simp only [execOp, ho, Sem.run_bind, hrun w hw, Result.andThen, Sem.run_pure]
  exact ⟨rfl, rfl⟩
theorem setRow_same (w : World) (b : Nat) (c : Array Value) (t : TypeId) (hg : w.heap[b]? = some (.cells c t (0, 0))) : w.setRow b c = w := by
  cases w with
  | _ =>
    simp only [World.setRow] at hg ⊢
    congr 1
    apply Array.ext_getElem?
    intro i
    rw [Array.getElem?_modify]
    split
    · rename_i e; subst e; rw [hg]; rfl
    · rfl
theorem run_store_back (w : World) (b : Nat) (t : TypeId) (c : Array Value) (hg : w.heap[b]? = some (.cells c t (0, 0))) (hi : (P.info? t).map (·.size) = some c.size) (h1 : c.all (·.oneCell') = true) :
    (Instr.storeAt t (.pointer (some ⟨b, 0, none⟩)) (.agg c)).run P w = .ok () w := by
  simp only [Instr.storeAt, Instr.sureAddr, Sem.run_bind, Sem.run_pure, Result.andThen]
  rw [run_storeVar_row w b t t c c hg hi rfl h1, setRow_same w b c t hg]
theorem run_load_all (w : World) (b : Nat) (t : TypeId) (c : Array Value) (n : Nat) (e : TypeId) (hu : P.underlying t = some (.array n e)) (hg : w.heap[b]? = some (.cells c t (0, 0))) (hi : (P.info? t).map (·.size) = some c.size) :
    (Instr.loadAt t (.pointer (some ⟨b, 0, none⟩))).run P w = .ok (.agg c) w := by
  simp only [Instr.loadAt, Instr.sureAddr, Sem.run_bind, Sem.run_pure, Result.andThen]
  exact run_loadVar_row w b t t c (0, 0) _ hg hu rfl hi
theorem results_cell_cell {fn : Func} {p u : Tmp} {ty tz : TypeId} (h : fn.results = #[.cell p ty, .cell u tz]) (tmps : Array Value) (P : Program) (w : World) :
    (results fn tmps).run P w =
      ((asAddr (tmps.getD p undef)).run P w).andThen fun a w₁ => ((loadVar ty a).run P w₁).andThen fun v w₂ =>
        ((asAddr (tmps.getD u undef)).run P w₂).andThen fun b w₃ => ((loadVar tz b).run P w₃).andThen fun z w₄ => .ok (.tuple #[v, z]) w₄ := by
  simp only [results, h]
  simp [Sem.run_bind, Result.andThen]
end

/-! ### A struct that is built of two arrays -/
theorem fold_at (off : Nat) : ∀ (l : List Value) (k : Nat) (base : Array Value) (i : Nat),
    ((l.zipIdx k).foldl (fun cs x => cs.setIfInBounds (off + x.2) x.1) base)[i]? = if off + k ≤ i ∧ i < off + k + l.length ∧ i < base.size then l[i - (off + k)]? else base[i]?
  | [], k, base, i => by
    rw [if_neg (by simp; omega)]; rfl
  | c :: l, k, base, i => by
    simp only [List.zipIdx_cons, List.foldl_cons]
    rw [fold_at off l (k + 1) (base.setIfInBounds (off + k) c) i]
    simp only [Array.size_setIfInBounds, List.length_cons, Array.getElem?_setIfInBounds]
    by_cases h1 : off + k = i
    · subst h1
      rw [if_neg (by omega), if_pos rfl]
      by_cases h2 : off + k < base.size
      · rw [if_pos h2, if_pos ⟨Nat.le_refl _, by omega, h2⟩]; simp
      · rw [if_neg h2, if_neg (by omega)]
        rw [Array.getElem?_eq_none (by omega)]
    · rw [if_neg h1]
      by_cases h2 : off + (k + 1) ≤ i ∧ i < off + (k + 1) + l.length ∧ i < base.size
      · rw [if_pos h2, if_pos (by omega)]
        rw [show i - (off + k) = (i - (off + (k + 1))) + 1 from by omega, List.getElem?_cons_succ]
      · rw [if_neg h2, if_neg (by omega)]

theorem fold_size (off : Nat) : ∀ (l : List (Value × Nat)) (base : Array Value), (l.foldl (fun cs x => cs.setIfInBounds (off + x.2) x.1) base).size = base.size
  | [], _ => rfl
  | c :: l, base => by rw [List.foldl_cons, fold_size off l]; simp

def putIn (off : Nat) (p base : Array Value) : Array Value := p.zipIdx.foldl (fun cs x => cs.setIfInBounds (off + x.2) x.1) base
theorem putIn_at (off : Nat) (p base : Array Value) (i : Nat) : (putIn off p base)[i]? = if off ≤ i ∧ i < off + p.size ∧ i < base.size then p[i - off]? else base[i]? := by
  have h := fold_at off p.toList 0 base i
  unfold putIn
  rw [← Array.foldl_toList, Array.toList_zipIdx, h]
  simp
theorem putIn_size (off : Nat) (p base : Array Value) : (putIn off p base).size = base.size := by
  unfold putIn
  rw [← Array.foldl_toList, fold_size]
theorem wpList_store_all {P : Program} {ops : Array Oper} {rest : List Oper} {op : Oper} {a : Act} {w : World} {Q : Exit → Act → World → Prop} (hgd : op.guard = none) (ty : TypeId) (x y : Operand) (ho : op.op = .store ty x y)
    (b : Nat) (c c' : Array Value) (hx : a.eval x = .pointer (some ⟨b, 0, none⟩)) (hy : a.eval y = .agg c')
    (hg : w.heap[b]? = some (.cells c ty (0, 0))) (hi : (P.info? ty).map (·.size) = some c'.size) (hc : c.size = c'.size) (h1 : c'.all (·.oneCell') = true)
    (h : wpList P ops Q rest (a.put op.dst undef) (w.setRow b c')) : wpList P ops Q (op :: rest) a w :=
  wpList_plain hgd fun _ hK => by
    unfold Oper.wp execOp
    simp only [ho, hx, hy, Instr.storeAt, Instr.sureAddr, Sem.run_bind, Sem.run_pure, Result.andThen_ok, run_storeVar_row w b ty ty c c' hg hi hc h1]
    exact hK _ _ h

theorem wpList_build_of {P : Program} {ops : Array Oper} {rest : List Oper} {op : Oper} {a : Act} {w : World} {Q : Exit → Act → World → Prop} (hgd : op.guard = none) (t : TypeId) (parts : Array (Nat × Operand)) (ho : op.op = .build t parts)
    (vs : Array (Nat × Value)) (hv : (parts.map fun (i, x) => (i, a.eval x)) = vs) (F : Array Value) (hF : P.built t vs.toList = some F)
    (h : wpList P ops Q rest (a.put op.dst (.agg F)) w) : wpList P ops Q (op :: rest) a w :=
  wpList_plain hgd fun _ hK => by
    unfold Oper.wp execOp
    simp only [ho, hv, Sem.run_bind, run_build w t vs F hF, Result.andThen_ok, Sem.run_pure]
    exact hK _ _ h
theorem wpList_box_of {P : Program} {ops : Array Oper} {rest : List Oper} {op : Oper} {a : Act} {w : World} {Q : Exit → Act → World → Prop} (hgd : op.guard = none) (t : TypeId) (x : Operand) (ho : op.op = .box t x)
    (F : Array Value) (hx : a.eval x = .agg F)
    (h : wpList P ops Q rest (a.put op.dst (.pointer (some ⟨w.heap.size, 0, none⟩))) (w.alloc (.cells F t))) : wpList P ops Q (op :: rest) a w :=
  wpList_plain hgd fun _ hK => by
    have hr : (Instr.box t (.agg F)).run P w = .ok (.pointer (some ⟨w.heap.size, 0, none⟩)) (w.alloc (.cells F t)) := by
      simp [Instr.box, newVar, Value.cells, go_sem]
    unfold Oper.wp execOp
    simp only [ho, hx, Sem.run_bind, hr, Result.andThen_ok, Sem.run_pure]
    exact hK _ _ h

end Go.Proofs.Ytjedogkfllddaaa

/-
  Slices of bytes that read as a list: what it means, that it stays while only new blocks are laid, and that two slices that read as one list are the same to the statements' own comparison. Conditions: none.
-/
namespace Go.Proofs.Ytjedogkfllddaaa
open Go.RowKit
open Pol (co Sm)

/-- From address A on lie the bytes l. -/
def Rd (w : World) (A : Option Addr) (l : List Nat) : Prop :=
  Sm l ∧ ∀ i, i < l.length → ∃ b o, A = some ⟨b, o, none⟩ ∧ w.cell? ⟨b, o + i, none⟩ = some (.int .u8 ((co l i : Nat) : Int))
theorem Rd.ext {w w' : World} {A : Option Addr} {l : List Nat} (h : Rd w A l) (hx : Ext w w') : Rd w' A l :=
  ⟨h.1, fun i hi => by
    obtain ⟨b, o, e, hc⟩ := h.2 i hi
    exact ⟨b, o, e, (hx.below.cell (p := ⟨b, o + i, none⟩) (block_lt_of_cell hc)).trans hc⟩⟩
theorem Rd.drewN {w : World} {A : Option Addr} {l : List Nat} (h : Rd w A l) (n : Nat) : Rd (w.drewN n) A l := h
theorem Rd.nil (w : World) (A : Option Addr) : Rd w A [] := ⟨Sm.nil, fun i hi => absurd hi (by simp)⟩
theorem Rd.addr {w : World} {A : Option Addr} {l : List Nat} (h : Rd w A l) (hl : 0 < l.length) : ∃ b o, A = some ⟨b, o, none⟩ ∧ ∀ i, i < l.length → w.cell? ⟨b, o + i, none⟩ = some (.int .u8 ((co l i : Nat) : Int)) := by
  obtain ⟨b, o, rfl, _⟩ := h.2 0 hl
  refine ⟨b, o, rfl, fun i hi => ?_⟩
  obtain ⟨b', o', e, hc⟩ := h.2 i hi
  injection e with e
  injection e with e1 e2
  subst e1; subst e2
  exact hc

set_option maxHeartbeats 400000 in
set_option maxRecDepth 100000 in
theorem same_true (l : List Nat) (A B : Option Addr) (ca cb : Nat) (w : World) (ha : Rd w A l) (hb : Rd w B l) (hl : l.length ≤ 1048576) :
    Calls Try.prog 13 #[.slice A l.length ca, .slice B l.length cb] w (Hands (.bool true) w) := by
  generalize hn : l.length = n at *
  have HA := Lib.hid ha
  have HB := Lib.hid hb
  have HN := Lib.hid hn
  clear ha hb hn
  go_enter Try.func13, Try.ntmps13
  go_wp2
  go_loopg [13] n (fun g s wx => ∃ k m : Nat, k + g = n ∧ s = .int .i64 (k : Int) ∧ wx = w.drewN m)
  case atStart => exact ⟨0, 0, by omega, rfl, rfl⟩
  case round =>
    obtain ⟨k, m, hkg, rfl, rfl⟩ := hrel
    cases gk with
    | zero =>
      obtain rfl : k = n := by omega
      clear hkg
      go_wp2
      go_ret
      exact ⟨rfl, m, rfl⟩
    | succ g =>
      have hk : k < n := by omega
      obtain ⟨b, o, rfl, hc⟩ := HA.out.2 k (by rw [HN.out]; exact hk)
      obtain ⟨b', o', rfl, hc'⟩ := HB.out.2 k (by rw [HN.out]; exact hk)
      have hkI : (k : Int) < (n : Int) := by omega
      go_wp2
      go_quiet (fail)
      go_wp2
      go_roundg g
      case measure => omega
      case rel => exact ⟨k + 1, _, by omega, by go_num, rfl⟩
/-- A call that hands back v; all else is as it was. -/
def Tells (v : Value) (w : World) (e : Ending) (w' : World) : Prop := e = .returned v ∧ Ext w w'
theorem Hands.tells {v : Value} {w : World} {e : Ending} {w' : World} (h : Hands v w e w') : Tells v w e w' := by
  obtain ⟨he, n, rfl⟩ := h
  exact ⟨he, (Ext.refl _).drewN n⟩
theorem same_tells (l : List Nat) (A B : Option Addr) (ca cb : Nat) (w : World) (ha : Rd w A l) (hb : Rd w B l) (hl : l.length ≤ 1048576) :
    Calls Try.prog 13 #[.slice A l.length ca, .slice B l.length cb] w (Tells (.bool true) w) := (same_true l A B ca cb w ha hb hl).mono fun _ _ h => h.tells
end Go.Proofs.Ytjedogkfllddaaa

/-
  What append and make do with slices of bytes of a call's own, in terms of the lists that they read as. Conditions: the lengths add up to no more than 2^40.
-/
namespace Go.Proofs.Ytjedogkfllddaaa
open Go.RowKit
open Pol (co Sm)

theorem u8_info : (Try.prog.info? 5).map (fun i => (i.zero, i.size, i.bytes)) = some (some (.int .u8 0), 1, 1) := by kernel_rfl
/-- Bytes as values. -/
def bv (l : List Nat) : List Value := l.map fun x : Nat => Value.int .u8 (x : Int)
theorem bv_len (l : List Nat) : (bv l).length = l.length := by simp [bv]
theorem bv_at (l : List Nat) (i : Nat) (h : i < l.length) : (bv l)[i]? = some (.int .u8 ((co l i : Nat) : Int)) := by
  simp [bv, co, List.getElem?_eq_getElem h]
theorem bv_one (l : List Nat) : ∀ u ∈ bv l, u.oneCell' = true := by
  intro u hu
  obtain ⟨x, _, rfl⟩ := List.mem_map.1 hu
  rfl
theorem bv_append (l m : List Nat) : bv (l ++ m) = bv l ++ bv m := by simp [bv]
/-- A slice of the call's own, of the bytes l. -/
def Mine (w : World) (base : Nat) (v : Value) (l : List Nat) : Prop := w.ownsRow base 5 1 v l.length (bv l)
theorem Mine.slice {w : World} {base : Nat} {v : Value} {l : List Nat} (h : Mine w base v l) (hs : Sm l) : ∃ B c, v = .slice B l.length c ∧ l.length ≤ c ∧ Rd w B l := by
  rcases h.2 with ⟨rfl, hn⟩ | ⟨g, cap, cur, rfl, _, hg, hnc, _, _, htake⟩
  · have : l = [] := List.eq_nil_of_length_eq_zero hn
    subst this
    exact ⟨none, 0, rfl, Nat.le_refl _, Rd.nil _ _⟩
  · refine ⟨_, cap, rfl, hnc, hs, fun i hi => ⟨g, 0, rfl, ?_⟩⟩
    rw [Nat.zero_add, cell_of_row w g i cur _ _ hg, ← bv_at l i hi, ← htake, List.getElem?_take, if_pos (by omega)]
    simp
theorem addr_add (b o j : Nat) : (⟨b, o, none⟩ : Addr).add j = ⟨b, o + j, none⟩ := Addr.add_mid b o j

set_option maxRecDepth 100000 in
theorem run_append_rd (w : World) (base : Nat) (ty : TypeId) (v : Value) (l m : List Nat) (hown : Mine w base v l) (A : Option Addr) (c : Nat) (hr : Rd w A m)
    (hlen : l.length + m.length ≤ 140737488355328) (hbase : base ≤ w.heap.size) :
    ∃ v' w', (Builtin.append_ #[26, 26] ty #[v, .slice A m.length c]).run Try.prog w = .ok v' w' ∧ Mine w' base v' (l ++ m) ∧ w.grownBy w' v.ownBlock ∧ (v'.ownBlock = v.ownBlock ∨ v'.ownBlock = some w.heap.size) := by
  obtain ⟨i0, hi, hz0, hz1, hz2⟩ := info_parts u8_info
  cases A with
  | none =>
    have hm : m = [] := by
      rcases Nat.eq_zero_or_pos m.length with h | h
      · exact List.eq_nil_of_length_eq_zero h
      · obtain ⟨_, _, e, _⟩ := hr.2 0 h; cases e
    subst hm
    refine ⟨v, w, ?_, by simpa using hown, ⟨rfl, rfl, rfl, Nat.le_refl _, fun _ _ _ => rfl⟩, .inl rfl⟩
    rcases hown.2 with ⟨rfl, _⟩ | ⟨g, cap, cur, rfl, _, _, hnc, _⟩
    · simp [Builtin.append_, run_underlying Try.underlying26, sizeOf, typeInfo, hi, Builtin.lenOf, Builtin.firstCells]
    · simp [Builtin.append_, run_underlying Try.underlying26, sizeOf, typeInfo, hi, Builtin.lenOf, Builtin.firstCells, hnc, storeCells]
  | some a =>
    have hcells : ∀ j u, (bv m)[j]? = some u → w.cell? (a.add j) = some u := by
      intro j u hu
      have hj : j < m.length := by
        have := (List.getElem?_eq_some_iff.1 hu).1
        rwa [bv_len] at this
      obtain ⟨b, o, e, hc⟩ := hr.2 j hj
      injection e with e
      subst e
      rw [addr_add, hc, ← bv_at m j hj, hu]
    obtain ⟨v', w', h1, h2, h3, _, h5⟩ := run_append_own_at (P := Try.prog) w base 26 ty 5 i0 (.int .u8 0) 1 1 Try.underlying26 hi hz0 hz1 hz2 rfl (by omega) v l.length (bv l) hown a m.length c (bv m) (by rw [bv_len, Nat.mul_one]) hcells (bv_one m)
      (by unfold maxLen; omega) (by omega) hbase
    exact ⟨v', w', h1, by unfold Mine; rw [List.length_append, bv_append]; exact h2, h3, h5⟩

/-- At the operation, for the walk. -/
theorem wpList_append_rd {ops : Array Oper} {rest : List Oper} {o : Oper} {a : Act} {w : World} {Q : Exit → Act → World → Prop} (hgd : o.guard = none) (s x : Operand)
    (ho : o.op = .call { callee := .builtin .append, args := #[s, x], argTypes := #[26, 26] })
    (base : Nat) (v : Value) (l m : List Nat) (hs : a.eval s = v) (hown : Mine w base v l) (A : Option Addr) (n c : Nat) (hx : a.eval x = .slice A n c) (hn : m.length = n) (hr : Rd w A m)
    (hlen : l.length + m.length ≤ 140737488355328) (hbase : base ≤ w.heap.size)
    (h : ∀ v' w', Mine w' base v' (l ++ m) → w.grownBy w' v.ownBlock → (v'.ownBlock = v.ownBlock ∨ v'.ownBlock = some w.heap.size) → wpList Try.prog ops Q rest (a.put o.dst v') w') :
    wpList Try.prog ops Q (o :: rest) a w := by
  subst hn
  refine wpList_plain hgd fun K hK => ?_
  obtain ⟨v', w', hrun, h2, h3, h4⟩ := run_append_rd w base o.type v l m hown A c hr hlen hbase
  unfold Oper.wp execOp
  simp only [ho, resolve, invoke, builtin, Sem.run_bind, Sem.run_pure, Result.andThen_ok, List.map_toArray, List.map_cons, List.map_nil, hs, hx, hrun]
  exact hK _ _ (h v' w' h2 h3 h4)

/-- A call that hands back a slice that reads as l; all else is as it was. -/
def Gives (l : List Nat) (w : World) (e : Ending) (w' : World) : Prop := ∃ B c, e = .returned (.slice B l.length c) ∧ l.length ≤ c ∧ Rd w' B l ∧ Ext w w'
theorem gives_of {w w' : World} {base : Nat} {v : Value} {l m : List Nat} (hm : Mine w' base v l) (hl : l = m) (hs : Sm m) (hx : Ext w w') : Gives m w (.returned v) w' := by
  subst hl
  obtain ⟨B, c, rfl, hc, hr⟩ := hm.slice hs
  exact ⟨B, c, rfl, hc, hr, hx⟩
theorem Rd.take {w : World} {A : Option Addr} {l : List Nat} (h : Rd w A l) (k : Nat) : Rd w A (l.take k) := by
  refine ⟨Pol.co_lt_of fun x hx => h.1.mem x (List.mem_of_mem_take hx), fun i hi => ?_⟩
  have hk : i < k ∧ i < l.length := by rw [List.length_take] at hi; omega
  obtain ⟨b, o, e, hc⟩ := h.2 i hk.2
  refine ⟨b, o, e, ?_⟩
  rw [hc]
  unfold co
  rw [List.getElem?_take, if_pos hk.1]
theorem mine_empty (w : World) : Mine (w.alloc (.cells #[] 5)) w.heap.size (.slice (some ⟨w.heap.size, 0, none⟩) 0 0) [] := World.ownsRow_lit w #[] 0 (Nat.le_refl _) (Nat.zero_le _) rfl
theorem rd_lit (w : World) (l : List Nat) (h : Sm l) : Rd (w.alloc (.cells (bv l).toArray 5)) (some ⟨w.heap.size, 0, none⟩) l :=
  ⟨h, fun i hi => ⟨w.heap.size, 0, rfl, by
    rw [cell_of_row _ _ _ _ _ _ (heap_alloc_new w _), Nat.zero_add]
    simpa using bv_at l i hi⟩⟩
theorem rd_lit_next (w : World) (o : Obj) (l : List Nat) (h : Sm l) : Rd ((w.alloc o).alloc (.cells (bv l).toArray 5)) (some ⟨w.heap.size + 1, 0, none⟩) l := by
  have := rd_lit (w.alloc o) l h
  rwa [show (w.alloc o).heap.size = w.heap.size + 1 from by simp] at this
theorem rd_one (w : World) (p : Nat) (hp : p < 256) : Rd (w.alloc (.cells #[.int .u8 (p : Int)] 5)) (some ⟨w.heap.size, 0, none⟩) [p] :=
  ⟨Sm.cons hp Sm.nil, fun i hi => ⟨w.heap.size, 0, rfl, by
    rw [cell_of_row _ _ _ _ _ _ (heap_alloc_new w _)]
    match i, hi with
    | 0, _ => simp [co]⟩⟩
theorem rd_two (w : World) (p q : Nat) (hp : p < 256) (hq : q < 256) : Rd (w.alloc (.cells #[.int .u8 (p : Int), .int .u8 (q : Int)] 5)) (some ⟨w.heap.size, 0, none⟩) [p, q] :=
  ⟨Sm.cons hp (Sm.cons hq Sm.nil), fun i hi => ⟨w.heap.size, 0, rfl, by
    rw [cell_of_row _ _ _ _ _ _ (heap_alloc_new w _)]
    match i, hi with
    | 0, _ => simp [co]
    | 1, _ => simp [co]⟩⟩
/-- A slice value that reads as l. -/
def Sl (w : World) (v : Value) (l : List Nat) : Prop := ∃ B c, v = .slice B l.length c ∧ l.length ≤ c ∧ Rd w B l
theorem Sl.ext {w w' : World} {v : Value} {l : List Nat} (h : Sl w v l) (hx : Ext w w') : Sl w' v l := by
  obtain ⟨B, c, rfl, hc, hr⟩ := h
  exact ⟨B, c, rfl, hc, hr.ext hx⟩
end Go.Proofs.Ytjedogkfllddaaa

/-
  Bytes that a call makes and fills one by one: a block as a function of the place. Conditions: none.
-/
namespace Go.Proofs.Ytjedogkfllddaaa
open Go.RowKit
open Pol (co Sm)

/-- n bytes, the one at place i being f i: as cells, and as a list. -/
def bt (n : Nat) (f : Nat → Nat) : Array Value := Array.ofFn (n := n) fun i => Value.int .u8 ((f i.val : Nat) : Int)
def tab (n : Nat) (f : Nat → Nat) : List Nat := (List.range n).map f
def upd (f : Nat → Nat) (k v : Nat) : Nat → Nat := fun i => if i = k then v else f i
theorem bt_size (n : Nat) (f : Nat → Nat) : (bt n f).size = n := by simp [bt]
theorem bt_at (n : Nat) (f : Nat → Nat) (i : Nat) (h : i < n) : (bt n f)[i]? = some (.int .u8 ((f i : Nat) : Int)) := by simp [bt, h]
theorem bt_set (n : Nat) (f : Nat → Nat) (k v : Nat) : (bt n f).setIfInBounds k (.int .u8 (v : Int)) = bt n (upd f k v) := by
  apply Array.ext (by simp [bt])
  intro i h1 h2
  simp only [bt, Array.size_setIfInBounds, Array.size_ofFn] at h1
  rw [Array.getElem_setIfInBounds (by simpa [bt] using h1)]
  by_cases e : k = i
  · subst e; simp [bt, upd]
  · rw [if_neg e]
    simp only [bt, Array.getElem_ofFn, upd]
    rw [if_neg (fun h => e h.symm)]
theorem bt_made (n : Nat) : madeCells #[.int .u8 0] n = bt n (fun _ => 0) := by
  apply Array.ext (by simp [bt, size_madeCells])
  intro i h1 h2
  simp [madeCells, bt, Nat.mod_one]
theorem tab_len (n : Nat) (f : Nat → Nat) : (tab n f).length = n := by simp [tab]
theorem co_tab (n : Nat) (f : Nat → Nat) (i : Nat) : co (tab n f) i = if i < n then f i else 0 := by
  unfold co tab
  rw [List.getElem?_map]
  by_cases h : i < n
  · rw [if_pos h, List.getElem?_range h]; rfl
  · rw [if_neg h, List.getElem?_eq_none (by simp; omega)]; rfl
theorem tab_sm (n : Nat) (f : Nat → Nat) (h : ∀ i, i < n → f i < 256) : Sm (tab n f) := fun i => by
  rw [co_tab]
  split
  · exact h i (by assumption)
  · omega
/-- Block g holds just these n bytes. -/
def Blk (w : World) (g n : Nat) (f : Nat → Nat) : Prop := w.heap[g]? = some (.cells (bt n f) 5 (0, 0))
theorem Blk.cell {w : World} {g n : Nat} {f : Nat → Nat} (h : Blk w g n f) (i : Nat) (hi : i < n) : w.cell? ⟨g, i, none⟩ = some (.int .u8 ((f i : Nat) : Int)) := by
  rw [cell_of_row w g i _ _ _ h, bt_at n f i hi]
theorem Blk.frozen {w : World} {g n : Nat} {f : Nat → Nat} (h : Blk w g n f) (i : Nat) : w.frozen? ⟨g, i, none⟩ = false := frozen_of_row w g i _ _ h
theorem Blk.store {w : World} {g n : Nat} {f : Nat → Nat} (h : Blk w g n f) (k v : Nat) : Blk (w.setCell ⟨g, k, none⟩ (.int .u8 (v : Int))) g n (upd f k v) := by
  unfold Blk
  rw [heap_setCell_same w g k _ _ _ h, bt_set]
theorem Blk.drewN {w : World} {g n : Nat} {f : Nat → Nat} (h : Blk w g n f) (m : Nat) : Blk (w.drewN m) g n f := h
theorem Blk.new (w : World) (n : Nat) (f : Nat → Nat) : Blk (w.alloc (.cells (bt n f) 5)) w.heap.size n f := heap_alloc_new w _
theorem Blk.congr {w : World} {g n : Nat} {f f' : Nat → Nat} (h : Blk w g n f) (hf : ∀ i, i < n → f i = f' i) : Blk w g n f' := by
  have e : bt n f = bt n f' := by
    apply Array.ext (by simp [bt])
    intro i h1 h2
    have hi : i < n := by simpa [bt] using h1
    simp [bt, hf i hi]
  unfold Blk
  rw [← e]
  exact h
theorem Blk.reads {w : World} {g n : Nat} {f : Nat → Nat} (h : Blk w g n f) (hs : ∀ i, i < n → f i < 256) : Rd w (some ⟨g, 0, none⟩) (tab n f) :=
  ⟨tab_sm n f hs, fun i hi => ⟨g, 0, rfl, by
    rw [tab_len] at hi
    rw [Nat.zero_add, h.cell i hi, co_tab, if_pos hi]⟩⟩
theorem Blk.lt {w : World} {g n : Nat} {f : Nat → Nat} (h : Blk w g n f) : g < w.heap.size := by
  rcases Nat.lt_or_ge g w.heap.size with hlt | hge
  · exact hlt
  · unfold Blk at h; rw [Array.getElem?_eq_none hge] at h; cases h
theorem Blk.ext {w w' : World} {g n : Nat} {f : Nat → Nat} (h : Blk w g n f) (hx : Ext w w') : Blk w' g n f := (hx.below.block g h.lt).trans h

set_option maxRecDepth 100000 in
/-- make([]byte, n). -/
theorem run_make_u8 (n : Nat) (hn : n ≤ 1099511627776) (w : World) :
    (Instr.makeSlice 26 (.int .i64 (n : Int)) (.int .i64 (n : Int))).run Try.prog w = .ok (.slice (some ⟨w.heap.size, 0, none⟩) n n) (w.alloc (.cells (bt n fun _ => 0) 5)) := by
  obtain ⟨i0, hi, hz0, hz1, hz2⟩ := info_parts u8_info
  have h := run_make (P := Try.prog) w 26 5 i0 (.int .u8 0) Try.underlying26 hi hz0 .i64 .i64 n n (by omega) (by omega) (by rw [hz2]; omega) (by omega)
  simp only [Int.toNat_natCast, hz1, Nat.mul_one] at h
  rw [h, ← bt_made]
  rfl
end Go.Proofs.Ytjedogkfllddaaa

/-
  What layer 7's functions are to answer: coins of a seed. Conditions: none; no function is named here.
-/
namespace Go.Proofs.Ytjedogkfllddaaa
open Go.RowKit
open Pol (co Sm)

/-! ### Numbers below 2^64 -/
/-- x and x divided by k, by exclusive or. -/
def xsh (k x : Nat) : Nat := x ^^^ x / k
def mixn (s i : Nat) : Nat := xsh 2147483648 (xsh 134217728 (xsh 1073741824 ((s + (i + 1) * 11400714819323198485) % 18446744073709551616) * 13787848793156543929 % 18446744073709551616) * 10723151780598845931 % 18446744073709551616)
def coin (s n : Nat) : Nat := mixn s (n / 8) / 256 ^ (n % 8) % 256
theorem coin_lt (s n : Nat) : coin s n < 256 := Nat.mod_lt _ (by omega)
theorem xsh_lt (k a : Nat) (h : a < 18446744073709551616) : xsh k a < 18446744073709551616 := Nat.xor_lt_two_pow (n := 64) (by omega) (by have := Nat.div_le_self a k; omega)
theorem mixn_lt (s i : Nat) : mixn s i < 18446744073709551616 := by
  unfold mixn
  exact xsh_lt _ _ (Nat.mod_lt _ (by omega))
theorem xor_four {a b c d : Nat} (h : a ^^^ b = c ^^^ d) : a ^^^ c = b ^^^ d := by
  apply Nat.eq_of_testBit_eq
  intro i
  have h1 := congrArg (fun t => t.testBit i) h
  simp only [Nat.testBit_xor] at h1 ⊢
  revert h1
  cases a.testBit i <;> cases b.testBit i <;> cases c.testBit i <;> cases d.testBit i <;> simp
theorem xor_zero_eq {x y : Nat} (h : x ^^^ y = 0) : x = y := by
  apply Nat.eq_of_testBit_eq
  intro i
  have h1 := congrArg (fun t => t.testBit i) h
  simp only [Nat.testBit_xor, Nat.zero_testBit] at h1
  revert h1
  cases x.testBit i <;> cases y.testBit i <;> simp
/-- x and x shifted right, by exclusive or, tells x. -/
theorem xsh_one {x y k : Nat} (hk : 0 < k) (h : x ^^^ x / 2 ^ k = y ^^^ y / 2 ^ k) : x = y := by
  have h1 : x ^^^ y = (x ^^^ y) / 2 ^ k := by
    rw [← Nat.shiftRight_eq_div_pow, Nat.shiftRight_xor_distrib, Nat.shiftRight_eq_div_pow, Nat.shiftRight_eq_div_pow]
    exact xor_four h
  refine xor_zero_eq ?_
  rcases Nat.eq_zero_or_pos (x ^^^ y) with h | h
  · exact h
  · have : (x ^^^ y) / 2 ^ k < x ^^^ y := Nat.div_lt_self h (Nat.one_lt_two_pow (by omega))
    omega
/-- A product with an odd number tells the other factor. -/
theorem mul_one64 {a b x y : Nat} (hab : b * a % 18446744073709551616 = 1) (hx : x < 18446744073709551616) (hy : y < 18446744073709551616) (h : x * a % 18446744073709551616 = y * a % 18446744073709551616) : x = y := by
  have key : ∀ z, z < 18446744073709551616 → b * (z * a % 18446744073709551616) % 18446744073709551616 = z := fun z hz => by
    rw [Nat.mul_mod_mod, show b * (z * a) = z * (b * a) from by rw [Nat.mul_left_comm], Nat.mul_mod, hab, Nat.mul_one, Nat.mod_mod, Nat.mod_eq_of_lt hz]
  rw [← key x hx, ← key y hy, h]
theorem xsh_30 {x y : Nat} (h : xsh 1073741824 x = xsh 1073741824 y) : x = y := xsh_one (k := 30) (by omega) h
theorem xsh_27 {x y : Nat} (h : xsh 134217728 x = xsh 134217728 y) : x = y := xsh_one (k := 27) (by omega) h
theorem xsh_31 {x y : Nat} (h : xsh 2147483648 x = xsh 2147483648 y) : x = y := xsh_one (k := 31) (by omega) h
theorem inv_a : 17428512612931826493 * 11400714819323198485 % 18446744073709551616 = 1 := by decide +kernel
theorem inv_b : 10871156337175269513 * 13787848793156543929 % 18446744073709551616 = 1 := by decide +kernel
theorem inv_c : 3573116690164977347 * 10723151780598845931 % 18446744073709551616 = 1 := by decide +kernel
theorem lt_mod (x : Nat) : x % 18446744073709551616 < 18446744073709551616 := Nat.mod_lt _ (by omega)
theorem sum_one {s a b : Nat} (h : (s + a) % 18446744073709551616 = (s + b) % 18446744073709551616) : a % 18446744073709551616 = b % 18446744073709551616 := by omega
theorem mixn_one {s i j : Nat} (hi : i < 18446744073709551616) (hj : j < 18446744073709551616) (h : mixn s i = mixn s j) : i = j := by
  unfold mixn at h
  have h1 := xsh_31 h
  clear h
  obtain ⟨x1, hx1⟩ : ∃ x1, xsh 1073741824 ((s + (i + 1) * 11400714819323198485) % 18446744073709551616) = x1 := ⟨_, rfl⟩
  obtain ⟨y1, hy1⟩ : ∃ y1, xsh 1073741824 ((s + (j + 1) * 11400714819323198485) % 18446744073709551616) = y1 := ⟨_, rfl⟩
  have bx1 : x1 < 18446744073709551616 := by rw [← hx1]; exact xsh_lt _ _ (lt_mod _)
  have by1 : y1 < 18446744073709551616 := by rw [← hy1]; exact xsh_lt _ _ (lt_mod _)
  rw [hx1, hy1] at h1
  obtain ⟨x2, hx2⟩ : ∃ x2, xsh 134217728 (x1 * 13787848793156543929 % 18446744073709551616) = x2 := ⟨_, rfl⟩
  obtain ⟨y2, hy2⟩ : ∃ y2, xsh 134217728 (y1 * 13787848793156543929 % 18446744073709551616) = y2 := ⟨_, rfl⟩
  have bx2 : x2 < 18446744073709551616 := by rw [← hx2]; exact xsh_lt _ _ (lt_mod _)
  have by2 : y2 < 18446744073709551616 := by rw [← hy2]; exact xsh_lt _ _ (lt_mod _)
  rw [hx2, hy2] at h1
  have h2 : x2 = y2 := mul_one64 inv_c bx2 by2 h1
  have h3 : x1 = y1 := mul_one64 inv_b bx1 by1 (xsh_27 (hx2.trans (h2.trans hy2.symm)))
  have h5 := sum_one (xsh_30 (hx1.trans (h3.trans hy1.symm)))
  have h6 : (i + 1) % 18446744073709551616 = (j + 1) % 18446744073709551616 := mul_one64 inv_a (lt_mod _) (lt_mod _) (by rw [Nat.mod_mul_mod, Nat.mod_mul_mod]; exact h5)
  clear h1 h2 h3 h5 hx1 hy1 hx2 hy2
  omega
/-- Eight coins as a number, the lowest first. -/
def num8 (s d : Nat) : Nat → Nat
  | 0 => 0
  | n + 1 => num8 s d n + coin s ((d + n) % 18446744073709551616) * 256 ^ n
theorem num8_lt (s d : Nat) : ∀ n, num8 s d n < 256 ^ n
  | 0 => by simp [num8]
  | n + 1 => by
    have h1 := num8_lt s d n
    have h2 := coin_lt s ((d + n) % 18446744073709551616)
    rw [num8, Nat.pow_succ]
    have h3 : coin s ((d + n) % 18446744073709551616) * 256 ^ n ≤ 255 * 256 ^ n := Nat.mul_le_mul_right _ (by omega)
    omega
theorem num8_byte (s d : Nat) : ∀ n i, i < n → num8 s d n / 256 ^ i % 256 = coin s ((d + i) % 18446744073709551616)
  | 0, i, h => by omega
  | n + 1, i, h => by
    rw [num8]
    by_cases e : i = n
    · subst e
      rw [Nat.add_mul_div_right _ _ (Nat.pow_pos (by omega)), Nat.div_eq_of_lt (num8_lt s d i), Nat.zero_add]
      exact Nat.mod_eq_of_lt (coin_lt _ _)
    · have hi : i < n := by omega
      obtain ⟨m, hm⟩ : ∃ m, n = i + 1 + m := ⟨n - (i + 1), by omega⟩
      have e1 : coin s ((d + n) % 18446744073709551616) * 256 ^ n = coin s ((d + n) % 18446744073709551616) * 256 ^ m * 256 * 256 ^ i := by
        rw [show (256 : Nat) ^ n = 256 ^ m * 256 * 256 ^ i from by rw [hm, Nat.pow_add, Nat.pow_add, Nat.pow_one, Nat.mul_comm (256 ^ i) 256, Nat.mul_comm, Nat.mul_assoc], ← Nat.mul_assoc, ← Nat.mul_assoc]
      rw [e1, Nat.add_mul_div_right _ _ (Nat.pow_pos (by omega)), Nat.add_mul_mod_self_right]
      exact num8_byte s d n i hi
end Go.Proofs.Ytjedogkfllddaaa

/-
  Slices of bytes of a call's own that are handed back. Conditions: none.
-/
namespace Go.Proofs.Ytjedogkfllddaaa
open Go.RowKit
open Pol (co Sm)

theorem mine_ext {w w' : World} {base : Nat} {v : Value} {l : List Nat} (h : Mine w base v l) (hx : Ext w w') : Mine w' base v l :=
  World.ownsRow.kept h (row := none) ⟨hx.below.os, hx.below.tape, hx.below.output, hx.below.size, fun k hk _ => hx.below.block k hk⟩ (by
    cases hb : v.ownBlock with
    | none => exact .inl rfl
    | some k => exact .inr (by simp))
theorem Mine.down {w : World} {base base' : Nat} {v : Value} {l : List Nat} (h : Mine w base v l) (hb : base' ≤ base) : Mine w base' v l :=
  ⟨h.1, h.2.imp id fun ⟨g, cap, cur, h1, h2, h3⟩ => ⟨g, cap, cur, h1, Nat.le_trans hb h2, h3⟩⟩
theorem Mine.nil (w : World) (base : Nat) : Mine w base (.slice none 0 0) [] := World.ownsRow_nil w base _ _
theorem Mine.block {w : World} {base : Nat} {v : Value} {l : List Nat} (h : Mine w base v l) : ∀ k, v.ownBlock = some k → base ≤ k ∧ k < w.heap.size := fun k hk => World.ownsRow.lt h k hk
/-- A list, in a block that was laid since. -/
def GivesM (l : List Nat) (w : World) (e : Ending) (w' : World) : Prop := ∃ v, e = .returned v ∧ Mine w' w.heap.size v l ∧ Sm l ∧ Ext w w'
theorem gives_m {w w' : World} {v : Value} {l m : List Nat} (hm : Mine w' w.heap.size v l) (hl : l = m) (hs : Sm m) (hx : Ext w w') : GivesM m w (.returned v) w' := by
  subst hl
  exact ⟨v, rfl, hm, hs, hx⟩
theorem GivesM.gives {l : List Nat} {w : World} {e : Ending} {w' : World} (h : GivesM l w e w') : Gives l w e w' := by
  obtain ⟨v, rfl, hm, hs, hx⟩ := h
  exact gives_of hm rfl hs hx
theorem GivesM.after {l : List Nat} {w w1 : World} {e : Ending} {w' : World} (h : GivesM l w1 e w') (hx : Ext w w1) : GivesM l w e w' := by
  obtain ⟨v, rfl, hm, hs, hx'⟩ := h
  exact ⟨v, rfl, hm.down hx.size, hs, hx.trans hx'⟩
end Go.Proofs.Ytjedogkfllddaaa

/-
  What the document's own Mix, Coin and Bytes of layer 7 do. Conditions: numbers below 2^64.
-/
namespace Go.Proofs.Ytjedogkfllddaaa
open Go.RowKit
open Pol (co Sm)

/-! ### Integers below 2^64 as the program has them -/
theorem nat_u16 {n : Int} (h : (Lit.int .u16 n).wf = true) : ∃ x : Nat, n = (x : Int) ∧ x < 65536 := by
  have := bounds_u16 h
  exact ⟨n.toNat, by omega, by omega⟩
theorem w64 (n : Nat) : IntKind.u64.wrap (n : Int) = ((n % 18446744073709551616 : Nat) : Int) := by rw [IntKind.wrap_u64]; omega
theorem w64_add (a b : Nat) : IntKind.u64.wrap ((a : Int) + (b : Int)) = (((a + b) % 18446744073709551616 : Nat) : Int) := by rw [← w64]; rfl
theorem w64_mul (a b : Nat) : IntKind.u64.wrap ((a : Int) * (b : Int)) = ((a * b % 18446744073709551616 : Nat) : Int) := by rw [← w64, Int.natCast_mul]
theorem w64_div (a k : Nat) (ha : a < 18446744073709551616) : IntKind.u64.wrap ((a : Int).tdiv (k : Int)) = ((a / k : Nat) : Int) := by
  rw [Int.tdiv_eq_ediv_of_nonneg (by omega), ← Int.natCast_ediv, w64, Nat.mod_eq_of_lt (Nat.lt_of_le_of_lt (Nat.div_le_self a k) ha)]
theorem w64_xsh (a k : Nat) (ha : a < 18446744073709551616) : bits .xor .u64 (a : Int) (IntKind.u64.wrap ((a : Int).tdiv (k : Int))) = ((xsh k a : Nat) : Int) := by
  rw [w64_div a k ha, u64_xor_nat _ _ ha (Nat.lt_of_le_of_lt (Nat.div_le_self a k) ha)]
  rfl
theorem mix_int (s i : Nat) :
    bits .xor .u64 (IntKind.u64.wrap (bits .xor .u64 (IntKind.u64.wrap (bits .xor .u64 (IntKind.u64.wrap ((s : Int) + IntKind.u64.wrap (IntKind.u64.wrap ((i : Int) + 1) * 11400714819323198485))) (IntKind.u64.wrap ((IntKind.u64.wrap ((s : Int) + IntKind.u64.wrap (IntKind.u64.wrap ((i : Int) + 1) * 11400714819323198485))).tdiv 1073741824)) * 13787848793156543929)) (IntKind.u64.wrap ((IntKind.u64.wrap (bits .xor .u64 (IntKind.u64.wrap ((s : Int) + IntKind.u64.wrap (IntKind.u64.wrap ((i : Int) + 1) * 11400714819323198485))) (IntKind.u64.wrap ((IntKind.u64.wrap ((s : Int) + IntKind.u64.wrap (IntKind.u64.wrap ((i : Int) + 1) * 11400714819323198485))).tdiv 1073741824)) * 13787848793156543929)).tdiv 134217728)) * 10723151780598845931))
      (IntKind.u64.wrap ((IntKind.u64.wrap (bits .xor .u64 (IntKind.u64.wrap (bits .xor .u64 (IntKind.u64.wrap ((s : Int) + IntKind.u64.wrap (IntKind.u64.wrap ((i : Int) + 1) * 11400714819323198485))) (IntKind.u64.wrap ((IntKind.u64.wrap ((s : Int) + IntKind.u64.wrap (IntKind.u64.wrap ((i : Int) + 1) * 11400714819323198485))).tdiv 1073741824)) * 13787848793156543929)) (IntKind.u64.wrap ((IntKind.u64.wrap (bits .xor .u64 (IntKind.u64.wrap ((s : Int) + IntKind.u64.wrap (IntKind.u64.wrap ((i : Int) + 1) * 11400714819323198485))) (IntKind.u64.wrap ((IntKind.u64.wrap ((s : Int) + IntKind.u64.wrap (IntKind.u64.wrap ((i : Int) + 1) * 11400714819323198485))).tdiv 1073741824)) * 13787848793156543929)).tdiv 134217728)) * 10723151780598845931)).tdiv 2147483648)) = ((mixn s i : Nat) : Int) := by
  have s1 : IntKind.u64.wrap ((i : Int) + 1) = (((i + 1) % 18446744073709551616 : Nat) : Int) := w64_add i 1
  have s2 : IntKind.u64.wrap ((((i + 1) % 18446744073709551616 : Nat) : Int) * 11400714819323198485) = (((i + 1) * 11400714819323198485 % 18446744073709551616 : Nat) : Int) := (w64_mul _ 11400714819323198485).trans (by rw [Nat.mod_mul_mod])
  have s3 : IntKind.u64.wrap ((s : Int) + (((i + 1) * 11400714819323198485 % 18446744073709551616 : Nat) : Int)) = (((s + (i + 1) * 11400714819323198485) % 18446744073709551616 : Nat) : Int) := (w64_add s _).trans (by rw [Nat.add_mod_mod])
  rw [s1, s2, s3]
  obtain ⟨z, hz⟩ : ∃ z, (s + (i + 1) * 11400714819323198485) % 18446744073709551616 = z := ⟨_, rfl⟩
  have bz : z < 18446744073709551616 := by rw [← hz]; exact lt_mod _
  have e1 := w64_xsh z 1073741824 bz
  have e2 := w64_mul (xsh 1073741824 z) 13787848793156543929
  obtain ⟨y, hy⟩ : ∃ y, xsh 1073741824 z * 13787848793156543929 % 18446744073709551616 = y := ⟨_, rfl⟩
  have bY : y < 18446744073709551616 := by rw [← hy]; exact lt_mod _
  have e3 := w64_xsh y 134217728 bY
  have e4 := w64_mul (xsh 134217728 y) 10723151780598845931
  obtain ⟨x, hx⟩ : ∃ x, xsh 134217728 y * 10723151780598845931 % 18446744073709551616 = x := ⟨_, rfl⟩
  have bX : x < 18446744073709551616 := by rw [← hx]; exact lt_mod _
  have e5 := w64_xsh x 2147483648 bX
  have hm : mixn s i = xsh 2147483648 x := by unfold mixn; rw [hz, hy, hx]
  rw [hy] at e2
  rw [hx] at e4
  rw [hz, hm]
  simp only [Int.cast_ofNat_Int] at e1 e2 e3 e4 e5
  rw [e1, e2, e3, e4, e5]

set_option maxHeartbeats 800000 in
theorem ref_mix (s i : Nat) (w : World) :
    Calls Try.prog 17 #[.int .u64 (s : Int), .int .u64 (i : Int)] w fun e w' => e = .returned (.int .u64 ((mixn s i : Nat) : Int)) ∧ w = w' := by
  have HM := Lib.hid (mix_int s i)
  go_enter Try.func17, Try.ntmps17
  go_wp2
  go_ret
  exact ⟨ret_int HM.out, rfl⟩

set_option maxHeartbeats 800000 in
set_option maxRecDepth 100000 in
theorem ref_coin (s n : Nat) (w : World) (hn : n < 18446744073709551616) :
    Calls Try.prog 12 #[.int .u64 (s : Int), .int .u64 (n : Int)] w fun e w' => e = .returned (.int .u8 ((coin s n : Nat) : Int)) ∧ w = w' := by
  obtain ⟨a, ha⟩ : ∃ a, n / 8 = a := ⟨_, rfl⟩
  obtain ⟨r, hr⟩ : ∃ r, n % 8 = r := ⟨_, rfl⟩
  have hq : Int.tdiv (n : Int) 8 = (a : Int) := by rw [Int.tdiv_eq_ediv_of_nonneg (by omega)]; omega
  have hm : Int.tmod (n : Int) 8 = (r : Int) := by rw [Int.tmod_eq_emod_of_nonneg (by omega)]; omega
  have haM : a < 18446744073709551616 := by omega
  have haI : (a : Int) < 18446744073709551616 := by omega
  have hnI : (n : Int) < 18446744073709551616 := by omega
  have hr8 : r < 8 := by omega
  have HM := Lib.hid (fun u => ref_mix s a u)
  have hx0 : mixn s a < 18446744073709551616 := mixn_lt s a
  have HCO := Lib.hid (show coin s n = mixn s a / 256 ^ r % 256 from by unfold coin; rw [ha, hr])
  generalize coin s n = cn at *
  generalize mixn s a = X at *
  clear ha hr
  go_enter Try.func12, Try.ntmps12
  go_wp2_with fail
  refine (HM.out w).mono ?_
  rintro e w1 ⟨rfl, rfl⟩
  go_wp2
  go_loopg [5, 6] r (fun g v5 v6 wx => ∃ k x : Nat, k + g = r ∧ v6 = .int .u64 (k : Int) ∧ v5 = .int .u64 (x : Int) ∧ X / 256 ^ k = x ∧ x < 18446744073709551616 ∧ w = wx)
  case atStart => exact ⟨0, X, by omega, rfl, rfl, by rw [Nat.pow_zero, Nat.div_one], hx0, rfl⟩
  case round =>
    obtain ⟨k, x, hkg, rfl, rfl, hxk, hxM, rfl⟩ := hrel
    have HXK := Lib.hid hxk
    clear hxk
    cases gk with
    | zero =>
      obtain rfl : k = r := by omega
      clear hkg
      obtain ⟨c, hc⟩ : ∃ c, x % 256 = c := ⟨_, rfl⟩
      have hcm : Int.tmod (x : Int) 256 = (c : Int) := by rw [Int.tmod_eq_emod_of_nonneg (by omega)]; omega
      have hc256 : (c : Int) < 256 := by omega
      have HCC := Lib.hid (show cn = c from by rw [HCO.out, HXK.out, hc])
      have hxI : (x : Int) < 18446744073709551616 := by omega
      clear hc
      go_wp2
      go_ret
      exact ⟨ret_int (by rw [HCC.out]), rfl⟩
    | succ g =>
      have hk : k < r := by omega
      have hkI : (k : Int) < (r : Int) := by omega
      obtain ⟨y, hy⟩ : ∃ y, x / 256 = y := ⟨_, rfl⟩
      have hyd : Int.tdiv (x : Int) 256 = (y : Int) := by rw [Int.tdiv_eq_ediv_of_nonneg (by omega)]; omega
      have hyM : y < 18446744073709551616 := by omega
      have hyI : (y : Int) < 18446744073709551616 := by omega
      have HY := Lib.hid (show X / 256 ^ (k + 1) = y from by rw [Nat.pow_succ, ← Nat.div_div_eq_div_mul, HXK.out, hy])
      have hxI : (x : Int) < 18446744073709551616 := by omega
      clear hy
      go_wp2
      go_roundg g
      case measure => omega
      case rel => exact ⟨k + 1, y, by omega, by go_num, rfl, HY.out, hyM, rfl⟩

/-- How many are drawn. -/
def many7 (m : Int) : Nat := min m.toNat 65536
/-- Coins from a number on. -/
def coins7 (s d n : Nat) : List Nat := tab n (fun i => coin s ((d + i) % 18446744073709551616))
theorem coins7_sm (s d n : Nat) : Sm (coins7 s d n) := tab_sm _ _ fun _ _ => coin_lt _ _
theorem coins7_len (s d n : Nat) : (coins7 s d n).length = n := tab_len _ _
theorem coins7_succ (s d n : Nat) : coins7 s d n ++ [coin s ((d + n) % 18446744073709551616)] = coins7 s d (n + 1) := by
  unfold coins7 tab
  rw [List.range_succ, List.map_append]
  rfl

set_option maxHeartbeats 1600000 in
set_option maxRecDepth 100000 in
theorem ref_bytes (s d : Nat) (m : Int) (w : World) (hm : m ≤ 9223372036854775807) :
    Calls Try.prog 14 #[.int .u64 (s : Int), .int .u64 (d : Int), .int .i64 m] w (Gives (coins7 s d (many7 m)) w) := by
  have HC := Lib.hid (fun n u (hn : n < 18446744073709551616) => ref_coin s n u hn)
  have HSM := Lib.hid (coins7_sm s d)
  have HLN := Lib.hid (coins7_len s d)
  have HSU := Lib.hid (coins7_succ s d)
  obtain ⟨N, hN⟩ : ∃ N, many7 m = N := ⟨_, rfl⟩
  rw [hN]
  have hN' : N = min m.toNat 65536 := by rw [← hN]; rfl
  have hNm : ∀ k : Nat, k < N ↔ (k : Int) < m ∧ k < 65536 := fun k => by omega
  have HNM := Lib.hid hNm
  have hN6 : N ≤ 65536 := by omega
  clear hN hN' hNm
  go_enter Try.func14, Try.ntmps14
  go_wp2
  go_loopg [7, 8] N (fun g v7 v8 wx => ∃ (k : Nat) (B : Option Addr) (c : Nat), k + g = N ∧ v8 = .int .i64 (k : Int) ∧ v7 = .slice B k c ∧ Mine wx w.heap.size (.slice B k c) (coins7 s d k) ∧ Ext w wx)
  case atStart => exact ⟨0, none, 0, by omega, rfl, rfl, Mine.nil _ _, Ext.refl w⟩
  case round =>
    obtain ⟨k, B, c, hkg, rfl, rfl, hmi, hx⟩ := hrel
    have HM := Lib.hid hmi
    have HX := Lib.hid hx
    clear hmi hx
    cases gk with
    | zero =>
      obtain rfl : k = N := by omega
      clear hkg
      have hno := HNM.out k
      obtain ⟨B', c', e', hc', hr'⟩ := HM.out.slice (HSM.out k)
      rw [HLN.out] at e' hc'
      injection e' with e1 e2 e3
      subst e1; subst e3
      have HR := Lib.hid hr'
      clear hr' e2
      by_cases h1 : (k : Int) < m
      · have h2 : ¬ k < 65536 := fun h => by have := hno.2 ⟨h1, h⟩; omega
        have t1 : decide ((k : Int) < m) = true := decide_eq_true h1
        have t2 : decide ((k : Int) < 65536) = false := decide_eq_false (by omega)
        clear hno h1 h2
        go_wp2
        go_ret
        exact ⟨B, c, (show Ending.returned (.slice B k c) = .returned (.slice B (coins7 s d k).length c) from by rw [HLN.out]), by rw [HLN.out]; exact hc', HR.out, HX.out⟩
      · have t1 : decide ((k : Int) < m) = false := decide_eq_false h1
        clear hno h1
        go_wp2
        go_ret
        exact ⟨B, c, (show Ending.returned (.slice B k c) = .returned (.slice B (coins7 s d k).length c) from by rw [HLN.out]), by rw [HLN.out]; exact hc', HR.out, HX.out⟩
    | succ g =>
      have hk := (HNM.out k).1 (by omega)
      have hkm : (k : Int) < m := hk.1
      have hk6 : (k : Int) < 65536 := by omega
      obtain ⟨y, hy⟩ : ∃ y, (d + k) % 18446744073709551616 = y := ⟨_, rfl⟩
      have hyM : y < 18446744073709551616 := by omega
      have ey : IntKind.u64.wrap ((d : Int) + (k : Int)) = (y : Int) := by rw [w64_add, hy]
      have ek : IntKind.u64.wrap (k : Int) = (k : Int) := IntWalk.u64_in _ (by omega)
      obtain ⟨z, hz⟩ : ∃ z, coin s y = z := ⟨_, rfl⟩
      have hz256 : z < 256 := by rw [← hz]; exact coin_lt _ _
      have HCN := Lib.hid (fun u => show Calls Try.prog 12 #[.int .u64 (s : Int), .int .u64 (y : Int)] u (fun e w' => e = .returned (.int .u8 (z : Int)) ∧ u = w') from hz ▸ HC.out y u hyM)
      have HSN := Lib.hid (show coins7 s d k ++ [z] = coins7 s d (k + 1) from by rw [← HSU.out k, hy, hz])
      have HL1 := Lib.hid (HLN.out k)
      have HL2 := Lib.hid (HLN.out (k + 1))
      clear hy hz hk
      go_wp2_with fail
      refine (HCN.out wr).mono ?_
      rintro e w2 ⟨rfl, rfl⟩
      go_wp2_with (at_builtin; refine wpList_append_rd rfl (.tmp 18) (.tmp 25) rfl w.heap.size _ (coins7 s d k) [z] rfl (mine_ext HM.out ((Ext.refl _).alloc _)) (some ⟨wr.heap.size, 0, none⟩) 1 1 rfl rfl (rd_one wr z hz256) (by rw [HL1.out]; simp; omega) (by simp; have := HX.out.size; omega) ?_; intro v' w3 hown' hg' hat'; rw [HSN.out] at hown'; have hx3 := (HX.out.alloc (.cells #[.int .u8 (z : Int)] 5)).more hg' (fun r e => (HM.out.block r e).1); obtain ⟨Bv, cv, ev', hcv, _⟩ := hown'.slice (HSM.out _); rw [HL2.out] at ev' hcv; subst ev'; have HO := Lib.hid hown'; have HX3 := Lib.hid hx3; clear hown' hg' hat' hx3)
      go_roundg g
      case measure => omega
      case rel => exact ⟨k + 1, Bv, cv, by omega, by go_num, rfl, HO.out, HX3.out⟩
end Go.Proofs.Ytjedogkfllddaaa

/-
  What layer 7's own functions are to do, as one statement; the laws of layer 7 are awake under that. Conditions: numbers below 2^64.
-/
namespace Go.Proofs.Ytjedogkfllddaaa
open Go.RowKit
open Pol (co Sm)

/-- Coins, and the source behind them. -/
def BytesE (s d n : Nat) (w : World) (e : Ending) (w' : World) : Prop := ∃ (B : Option Addr) (c : Nat), e = .returned (.tuple #[.slice B n c, .agg #[.int .u64 (s : Int), .int .u64 (((d + n) % 18446744073709551616 : Nat) : Int)]]) ∧ n ≤ c ∧ Rd w' B (coins7 s d n) ∧ Ext w w'
structure PadSaid : Prop where
  next : ∀ (s d : Nat) (w : World), s < 18446744073709551616 → d < 18446744073709551616 →
    Calls Try.prog 11 #[.agg #[.int .u64 (s : Int), .int .u64 (d : Int)]] w (Tells (.tuple #[.int .u64 ((num8 s d 8 : Nat) : Int), .agg #[.int .u64 (s : Int), .int .u64 (((d + 8) % 18446744073709551616 : Nat) : Int)]]) w)
  bytes : ∀ (s d : Nat) (m : Int) (w : World), s < 18446744073709551616 → d < 18446744073709551616 → -9223372036854775808 ≤ m → m ≤ 9223372036854775807 →
    Calls Try.prog 10 #[.agg #[.int .u64 (s : Int), .int .u64 (d : Int)], .int .i64 m] w (BytesE s d (many7 m) w)
  skip : ∀ (s d n : Nat) (w : World), s < 18446744073709551616 → d < 18446744073709551616 → n < 18446744073709551616 →
    Calls Try.prog 15 #[.agg #[.int .u64 (s : Int), .int .u64 (d : Int)], .int .u64 (n : Int)] w (Tells (.agg #[.int .u64 (s : Int), .int .u64 (((d + n) % 18446744073709551616 : Nat) : Int)]) w)
  split : ∀ (s d n : Nat) (w : World), s < 18446744073709551616 → d < 18446744073709551616 → n < 18446744073709551616 →
    Calls Try.prog 16 #[.agg #[.int .u64 (s : Int), .int .u64 (d : Int)], .int .u64 (n : Int)] w (Tells (.agg #[.int .u64 ((mixn s n ^^^ d : Nat) : Int), .int .u64 0]) w)

theorem ex7 : num8 0 0 8 = 16294208416658607535 := by decide +kernel

set_option maxHeartbeats 800000 in
theorem awake7 (C : PadSaid) (w : World) : Calls Try.prog 9 #[] w (Holds w) := by
  have HN := Lib.hid (fun u => show Calls Try.prog 11 #[.agg #[.int .u64 0, .int .u64 0]] u (Tells (.tuple #[.int .u64 16294208416658607535, .agg #[.int .u64 0, .int .u64 8]]) u) from by
    have h := C.next 0 0 u (by decide) (by decide)
    rw [ex7] at h
    exact h)
  clear C
  go_enter Try.func9, Try.ntmps9
  go_wp2_with fail
  refine (HN.out w).mono ?_
  rintro e w1 ⟨rfl, hx1⟩
  have HX1 := Lib.hid hx1
  clear hx1
  go_wp2
  go_ret
  exact ⟨rfl, HX1.out.alloc _⟩
end Go.Proofs.Ytjedogkfllddaaa

/-
  The law PadNext, walked, under what layer 7's functions are to do. Conditions: none.
-/
namespace Go.Proofs.Ytjedogkfllddaaa
open Go.RowKit
open Pol (co Sm)

/-- A source in memory stays while only new blocks are laid. -/
theorem src_keep {w w' : World} {g : Nat} {s d : Int} (h : w.cell? ⟨g, 0, none⟩ = some (.int .u64 s) ∧ w.cell? ⟨g, 1, none⟩ = some (.int .u64 d)) (hx : Ext w w') : w'.cell? ⟨g, 0, none⟩ = some (.int .u64 s) ∧ w'.cell? ⟨g, 1, none⟩ = some (.int .u64 d) :=
  ⟨(hx.below.cell (p := ⟨g, 0, none⟩) (block_lt_of_cell h.1)).trans h.1, (hx.below.cell (p := ⟨g, 1, none⟩) (block_lt_of_cell h.2)).trans h.2⟩
theorem src_new (w : World) (s d : Int) : (w.alloc (.cells #[.int .u64 s, .int .u64 d] 25)).cell? ⟨w.heap.size, 0, none⟩ = some (.int .u64 s) ∧ (w.alloc (.cells #[.int .u64 s, .int .u64 d] 25)).cell? ⟨w.heap.size, 1, none⟩ = some (.int .u64 d) :=
  ⟨by rw [cell_of_row _ _ _ _ _ _ (heap_alloc_new w _)]; rfl, by rw [cell_of_row _ _ _ _ _ _ (heap_alloc_new w _)]; rfl⟩

set_option maxHeartbeats 1600000 in
set_option maxRecDepth 100000 in
theorem next7_walk (C : PadSaid) (s d : Nat) (w : World) (hs : s < 18446744073709551616) (hd : d < 18446744073709551616) :
    Calls Try.prog 5 #[.int .u64 (s : Int), .int .u64 (d : Int)] w (Holds w) := by
  have HAW := Lib.hid (fun u => awake7 C u)
  have hX := num8_lt s d 8
  have HBY := Lib.hid (num8_byte s d 8)
  have HN := Lib.hid (fun u => C.next s d u hs hd)
  have HB := Lib.hid (fun u => show Calls Try.prog 10 #[.agg #[.int .u64 (s : Int), .int .u64 (d : Int)], .int .i64 8] u (BytesE s d 8 u) from C.bytes s d 8 u hs hd (by omega) (by omega))
  have HCB := Lib.hid (show ∀ i, i < 8 → co (coins7 s d 8) i = num8 s d 8 / 256 ^ i % 256 from fun i hi => by
    unfold coins7
    rw [co_tab, if_pos hi, num8_byte s d 8 i hi])
  have HCL := Lib.hid (coins7_len s d 8)
  obtain ⟨d8, hd8⟩ : ∃ d8, (d + 8) % 18446744073709551616 = d8 := ⟨_, rfl⟩
  unfold BytesE at HB
  rw [hd8] at HN HB
  generalize num8 s d 8 = X at *
  have hXM : X < 18446744073709551616 := by have : (256 : Nat) ^ 8 = 18446744073709551616 := by decide
                                            omega
  have hXI : (X : Int) < 18446744073709551616 := by omega
  have t8 : ((d8 : Int) != (d8 : Int)) = false := by simp
  clear C hd8 HBY hX
  go_enter Try.func5, Try.ntmps5
  go_wp2_with fail
  refine (HAW.out w).mono ?_
  rintro e w1 ⟨rfl, hx1⟩
  have HX1 := Lib.hid hx1
  clear hx1
  go_wp2_with fail
  refine (HN.out _).mono ?_
  rintro e w2 ⟨rfl, hx2⟩
  have HX2 := Lib.hid (((Ext.refl w1).alloc _).trans hx2)
  obtain ⟨z0, z1⟩ := src_keep (src_keep (src_new w1 (s : Int) (d : Int)) hx2) ((Ext.refl w2).alloc (.cells #[.int .u64 (s : Int), .int .u64 (d8 : Int)] 25))
  clear hx2
  go_wp2_with fail
  refine (HB.out _).mono ?_
  rintro e w3 ⟨B3, c3, rfl, hc3, hr3, hx3⟩
  have HX3 := Lib.hid (HX2.out.trans (((Ext.refl w2).alloc _).trans hx3))
  obtain ⟨y0, y1⟩ := src_keep (src_keep (src_new w2 (s : Int) (d8 : Int)) hx3) ((Ext.refl w3).alloc (.cells #[.int .u64 (s : Int), .int .u64 (d8 : Int)] 25))
  have HR3 := Lib.hid hr3
  clear hx3 hr3 z0 z1
  go_wp2
  have HRW := Lib.hid (HR3.out.ext ((Ext.refl w3).alloc (.cells #[.int .u64 (s : Int), .int .u64 (d8 : Int)] 25)))
  have HXW := Lib.hid (HX1.out.trans (HX3.out.alloc (.cells #[.int .u64 (s : Int), .int .u64 (d8 : Int)] 25)))
  clear y0 y1
  generalize w3.alloc (.cells #[.int .u64 (s : Int), .int .u64 (d8 : Int)] 25) = W at HRW HXW ⊢
  go_loopg [36] 8 (fun g v wx => ∃ i : Nat, i + g = 8 ∧ v = .int .i64 (i : Int) ∧ W = wx)
  case atStart => exact ⟨0, by omega, rfl, rfl⟩
  case round =>
    obtain ⟨i, hig, rfl, rfl⟩ := hrel
    cases gk with
    | zero =>
      obtain rfl : i = 8 := by omega
      clear hig
      go_wp2
      go_ret
      exact ⟨rfl, HXW.out⟩
    | succ g =>
      have hi : i < 8 := by omega
      have hiI : (i : Int) < 8 := by omega
      obtain ⟨b1, o1, e1, hc1⟩ := HRW.out.2 i (by rw [HCL.out]; exact hi)
      subst e1
      rw [HCB.out i hi] at hc1
      obtain ⟨y, hy⟩ : ∃ y, X / 256 ^ i % 256 = y := ⟨_, rfl⟩
      rw [hy] at hc1
      have hye : (X : Int) / 2 ^ (8 * i) % 256 = (y : Int) := by
        rw [← hy, show (256 : Nat) ^ i = 2 ^ (8 * i) from by rw [Nat.pow_mul], Int.natCast_emod, Int.natCast_ediv, Int.natCast_pow]
        rfl
      have ty : ((y : Int) != (y : Int)) = false := by simp
      clear hy
      go_wp2
      go_roundg g
      case measure => omega
      case rel => exact ⟨i + 1, by omega, by go_num, rfl⟩
end Go.Proofs.Ytjedogkfllddaaa

/-
  The law PadTells, walked, under what layer 7's functions are to do. Conditions: none.
-/
namespace Go.Proofs.Ytjedogkfllddaaa
open Go.RowKit
open Pol (co Sm)

set_option maxHeartbeats 1600000 in
set_option maxRecDepth 100000 in
theorem tells7_big (C : PadSaid) (s d n : Int) (m : Int) (w : World) (h : 300 < m) :
    Calls Try.prog 3 #[.int .u64 s, .int .u64 d, .int .i64 m, .int .u64 n] w (Holds w) := by
  have HAW := Lib.hid (fun u => awake7 C u)
  have e0 : decide (300 < m) = true := decide_eq_true h
  clear C h
  go_enter Try.func3, Try.ntmps3
  go_wp2_with fail
  refine (HAW.out w).mono ?_
  rintro e w1 ⟨rfl, hx1⟩
  have HX1 := Lib.hid hx1
  clear hx1
  go_wp2_with fail
  refine (HAW.out w1).mono ?_
  rintro e w2 ⟨rfl, hx2⟩
  have HX2 := Lib.hid (HX1.out.trans hx2)
  clear hx2
  go_wp2
  go_ret
  exact ⟨rfl, HX2.out⟩

set_option maxHeartbeats 3200000 in
set_option maxRecDepth 100000 in
theorem tells7_small (C : PadSaid) (s d n k : Nat) (m : Int) (w : World) (hs : s < 18446744073709551616) (hd : d < 18446744073709551616) (hn : n < 18446744073709551616) (hm1 : -9223372036854775808 ≤ m) (hm3 : m ≤ 300) (hk : many7 m = k) (hmk : m = (k : Int) ∨ (m < 0 ∧ k = 0)) :
    Calls Try.prog 3 #[.int .u64 (s : Int), .int .u64 (d : Int), .int .i64 m, .int .u64 (n : Int)] w (Holds w) := by
  have HAW := Lib.hid (fun u => awake7 C u)
  have e0 : decide (300 < m) = false := decide_eq_false (by omega)
  have hk3 : k ≤ 300 := by omega
  have HB := Lib.hid (fun u => show Calls Try.prog 10 #[.agg #[.int .u64 (s : Int), .int .u64 (d : Int)], .int .i64 m] u (BytesE s d k u) from hk ▸ C.bytes s d m u hs hd hm1 (by omega))
  have HN := Lib.hid (fun u => C.next s d u hs hd)
  have HSK := Lib.hid (fun u => C.skip s d n u hs hd hn)
  have HSP := Lib.hid (fun u => C.split s d n u hs hd hn)
  have HMX := Lib.hid (fun u => ref_mix s n u)
  have HRB := Lib.hid (fun u => show Calls Try.prog 14 #[.int .u64 (s : Int), .int .u64 (d : Int), .int .i64 m] u (Gives (coins7 s d k) u) from hk ▸ ref_bytes s d m u (by omega))
  have HCO := Lib.hid (fun y u (hy : y < 18446744073709551616) => ref_coin s y u hy)
  have HSA := Lib.hid (fun X Y cx cy W (hX : Rd W X (coins7 s d k)) (hY : Rd W Y (coins7 s d k)) => show Calls Try.prog 13 #[.slice X k cx, .slice Y k cy] W (Hands (.bool true) W) from by
    have h := same_true (coins7 s d k) X Y cx cy W hX hY (by rw [coins7_len]; omega)
    rwa [coins7_len] at h)
  have HCL := Lib.hid (coins7_len s d k)
  have hmx := mixn_lt s n
  generalize mixn s n = mx at *
  have hxor := u64_xor_nat mx d hmx hd
  obtain ⟨sp, hsp⟩ : ∃ sp, mx ^^^ d = sp := ⟨_, rfl⟩
  rw [hsp] at hxor HSP
  have ew1 : IntKind.u64.wrap ((d : Int) + (k : Int)) = (((d + k) % 18446744073709551616 : Nat) : Int) := w64_add d k
  have ew2 : IntKind.u64.wrap ((d : Int) + 8) = (((d + 8) % 18446744073709551616 : Nat) : Int) := w64_add d 8
  have ew3 : IntKind.u64.wrap ((d : Int) + (n : Int)) = (((d + n) % 18446744073709551616 : Nat) : Int) := w64_add d n
  unfold BytesE at HB
  generalize hdk : (d + k) % 18446744073709551616 = dk at *
  have HDK := Lib.hid hdk
  clear hdk
  generalize (d + 8) % 18446744073709551616 = d8 at *
  generalize (d + n) % 18446744073709551616 = dn at *
  have ek : IntKind.u64.wrap (k : Int) = (k : Int) := IntWalk.u64_in _ (by omega)
  have HNS := Lib.hid (show ∀ i, num8 s d (i + 1) = num8 s d i + coin s ((d + i) % 18446744073709551616) * 256 ^ i from fun i => rfl)
  have HNL := Lib.hid (num8_lt s d)
  clear C hk hsp
  go_enter Try.func3, Try.ntmps3
  go_wp2_with fail
  refine (HAW.out w).mono ?_
  rintro e w1 ⟨rfl, hx1⟩
  have HX1 := Lib.hid hx1
  clear hx1
  go_wp2_with fail
  refine (HB.out _).mono ?_
  rintro e w2 ⟨B2, c2, rfl, hc2, hr2, hx2⟩
  have HX2 := Lib.hid (((Ext.refl w1).alloc _).trans hx2)
  have hxa2 := (Ext.refl w2).alloc (.cells #[.int .u64 (s : Int), .int .u64 (dk : Int)] 25)
  obtain ⟨z0, z1⟩ := src_keep (src_keep (src_new w1 (s : Int) (d : Int)) hx2) hxa2
  have HZ := Lib.hid (And.intro z0 z1)
  have HR2 := Lib.hid hr2
  clear hx2 hr2 hxa2
  go_wp2_with fail
  refine (HN.out _).mono ?_
  rintro e w3 ⟨rfl, hx3⟩
  have HX3 := Lib.hid (((Ext.refl w2).alloc (.cells #[.int .u64 (s : Int), .int .u64 (dk : Int)] 25)).trans hx3)
  have hxa3 := hx3.alloc (.cells #[.int .u64 (s : Int), .int .u64 (d8 : Int)] 25)
  have HZ3 := Lib.hid (src_keep HZ.out hxa3)
  have HT3 := Lib.hid (src_keep (src_new w2 (s : Int) (dk : Int)) hxa3)
  have HU3 := Lib.hid (src_new w3 (s : Int) (d8 : Int))
  have HR3 := Lib.hid ((HR2.out.ext ((Ext.refl w2).alloc (.cells #[.int .u64 (s : Int), .int .u64 (dk : Int)] 25))).ext hxa3)
  have HXW := Lib.hid (HX1.out.trans (HX2.out.trans (HX3.out.alloc (.cells #[.int .u64 (s : Int), .int .u64 (d8 : Int)] 25))))
  clear hx3 hxa3 z0 z1 HZ
  go_wp2
  generalize w3.alloc (.cells #[.int .u64 (s : Int), .int .u64 (d8 : Int)] 25) = W at HZ3 HT3 HU3 HR3 HXW ⊢
  go_loopg [14, 37] 8 (fun g v14 v37 wx => ∃ i x : Nat, i + g = 8 ∧ v37 = .int .i64 (i : Int) ∧ v14 = .int .u64 (x : Int) ∧ num8 s d i = x ∧ W = wx)
  case atStart => exact ⟨0, 0, by omega, rfl, rfl, rfl, rfl⟩
  case round =>
    obtain ⟨i, x, hig, rfl, rfl, hnx, rfl⟩ := hrel
    have HX := Lib.hid hnx
    clear hnx
    cases gk with
    | zero =>
      obtain rfl : i = 8 := by omega
      clear hig
      rw [HX.out]
      rcases hmk with hmk | ⟨hmk, hk0⟩
      · subst hmk
        go_wp2_with fail
        refine (HRB.out W).mono ?_
        rintro e w5 ⟨B5, c5, rfl, hc5, hr5, hx5⟩
        rw [HCL.out] at hc5 ⊢
        have HX5 := Lib.hid hx5
        have HS5 := Lib.hid (HSA.out B2 B5 c2 c5 w5 (HR3.out.ext hx5) hr5)
        have HZ5 := Lib.hid (src_keep HZ3.out hx5)
        have HT5 := Lib.hid (src_keep HT3.out hx5)
        have HU5 := Lib.hid (src_keep HU3.out hx5)
        clear hx5 hr5
        go_wp2_with fail
        refine HS5.out.mono ?_
        rintro e w6 ⟨rfl, q6, hw6⟩
        have hx6 : Ext w5 w6 := hw6 ▸ (Ext.refl w5).drewN q6
        have HX6 := Lib.hid (HX5.out.trans hx6)
        have HZ6 := Lib.hid (src_keep HZ5.out hx6)
        obtain ⟨t0, t1⟩ := src_keep HT5.out hx6
        obtain ⟨u0, u1⟩ := src_keep HU5.out hx6
        obtain ⟨z0, z1⟩ := HZ6.out
        have tdk : ((dk : Int) == (dk : Int)) = true := by simp
        clear hw6 hx6 HT5 HU5 HZ5
        go_wp2_with fail
        refine (HSK.out w6).mono ?_
        rintro e w7 ⟨rfl, hx7⟩
        have HX7 := Lib.hid (HX6.out.trans hx7)
        obtain ⟨y0, y1⟩ := src_keep HZ6.out hx7
        clear hx7 t0 t1 u0 u1 z0 z1
        go_wp2_with fail
        refine (HSP.out w7).mono ?_
        rintro e w8 ⟨rfl, hx8⟩
        have HX8 := Lib.hid (HX7.out.trans hx8)
        clear hx8 y0 y1
        go_wp2_with fail
        refine (HMX.out w8).mono ?_
        rintro e w9 ⟨rfl, rfl⟩
        go_wp2
        go_ret
        exact ⟨rfl, HXW.out.trans HX8.out⟩
      · subst hk0
        obtain rfl : dk = d := by have := HDK.out; omega
        go_wp2_with fail
        refine (HRB.out W).mono ?_
        rintro e w5 ⟨B5, c5, rfl, hc5, hr5, hx5⟩
        rw [HCL.out] at hc5 ⊢
        have HX5 := Lib.hid hx5
        have HS5 := Lib.hid (HSA.out B2 B5 c2 c5 w5 (HR3.out.ext hx5) hr5)
        have HZ5 := Lib.hid (src_keep HZ3.out hx5)
        have HT5 := Lib.hid (src_keep HT3.out hx5)
        have HU5 := Lib.hid (src_keep HU3.out hx5)
        clear hx5 hr5
        go_wp2_with fail
        refine HS5.out.mono ?_
        rintro e w6 ⟨rfl, q6, hw6⟩
        have hx6 : Ext w5 w6 := hw6 ▸ (Ext.refl w5).drewN q6
        have HX6 := Lib.hid (HX5.out.trans hx6)
        have HZ6 := Lib.hid (src_keep HZ5.out hx6)
        obtain ⟨t0, t1⟩ := src_keep HT5.out hx6
        obtain ⟨u0, u1⟩ := src_keep HU5.out hx6
        obtain ⟨z0, z1⟩ := HZ6.out
        have tdk : ((dk : Int) == (dk : Int)) = true := by simp
        clear hw6 hx6 HT5 HU5 HZ5
        go_wp2_with fail
        refine (HSK.out w6).mono ?_
        rintro e w7 ⟨rfl, hx7⟩
        have HX7 := Lib.hid (HX6.out.trans hx7)
        obtain ⟨y0, y1⟩ := src_keep HZ6.out hx7
        clear hx7 t0 t1 u0 u1 z0 z1
        go_wp2_with fail
        refine (HSP.out w7).mono ?_
        rintro e w8 ⟨rfl, hx8⟩
        have HX8 := Lib.hid (HX7.out.trans hx8)
        clear hx8 y0 y1
        go_wp2_with fail
        refine (HMX.out w8).mono ?_
        rintro e w9 ⟨rfl, rfl⟩
        go_wp2
        go_ret
        exact ⟨rfl, HXW.out.trans HX8.out⟩
    | succ g =>
      have hi : i < 8 := by omega
      have hiI : (i : Int) < 8 := by omega
      obtain ⟨y, hy⟩ : ∃ y, (d + i) % 18446744073709551616 = y := ⟨_, rfl⟩
      have hyM : y < 18446744073709551616 := by omega
      have ey : IntKind.u64.wrap ((d : Int) + (i : Int)) = (y : Int) := by rw [w64_add, hy]
      have ei : IntKind.u64.wrap (i : Int) = (i : Int) := IntWalk.u64_in _ (by omega)
      have HCY := Lib.hid (HCO.out y W hyM)
      have hc := coin_lt s y
      obtain ⟨c, hcc⟩ : ∃ c, coin s y = c := ⟨_, rfl⟩
      rw [hcc] at HCY hc
      have hcI : (c : Int) < 256 := by omega
      obtain ⟨t, ht⟩ : ∃ t, c * 256 ^ i = t := ⟨_, rfl⟩
      obtain ⟨x', hx'⟩ : ∃ x', x + t = x' := ⟨_, rfl⟩
      have HXN := Lib.hid (show num8 s d (i + 1) = x' from by rw [HNS.out, HX.out, hy, hcc, ht, hx'])
      have hlt : x' < 18446744073709551616 := by
        rw [← HXN.out]
        exact Nat.lt_of_lt_of_le (HNL.out (i + 1)) (Nat.le_trans (Nat.pow_le_pow_right (by omega) (show i + 1 ≤ 8 by omega)) (by decide))
      have esh : IntKind.u64.wrap ((c : Int) * 2 ^ (8 * i)) = (t : Int) := by
        rw [show (2 : Int) ^ (8 * i) = ((256 ^ i : Nat) : Int) from by rw [Int.natCast_pow, Int.pow_mul]; rfl, ← Int.natCast_mul, ht]
        exact IntWalk.u64_in _ (by omega)
      have eadd : IntKind.u64.wrap ((x : Int) + (t : Int)) = (x' : Int) := by rw [IntWalk.u64_in _ (by omega)]; omega
      clear hy hcc ht hx' HX
      go_wp2_with fail
      refine HCY.out.mono ?_
      rintro e w5 ⟨rfl, rfl⟩
      go_wp2
      go_roundg g
      case measure => omega
      case rel => exact ⟨i + 1, x', by omega, by go_num, rfl, HXN.out, rfl⟩

theorem tells7_walk (C : PadSaid) (s d n : Nat) (m : Int) (w : World) (hs : s < 18446744073709551616) (hd : d < 18446744073709551616) (hn : n < 18446744073709551616) (hm1 : -9223372036854775808 ≤ m) :
    Calls Try.prog 3 #[.int .u64 (s : Int), .int .u64 (d : Int), .int .i64 m, .int .u64 (n : Int)] w (Holds w) := by
  by_cases h : 300 < m
  · exact tells7_big C s d n m w h
  · exact tells7_small C s d n (many7 m) m w hs hd hn hm1 (by omega) rfl (by unfold many7; omega)
end Go.Proofs.Ytjedogkfllddaaa

/-
  What mix, coin, Skip and Split of layer 7 do. Conditions: numbers below 2^64.
-/
namespace Go.Proofs.Ytjedogkfllddaaa
open Go.RowKit
open Pol (co Sm)

theorem wdiv (x : Int) (k : Int) (hk : 1 ≤ k) : IntKind.u64.wrap ((IntKind.u64.wrap x).tdiv k) = IntKind.u64.wrap x / k := by
  have h1 : IntKind.u64.wrap x = x % 18446744073709551616 := IntKind.wrap_u64 x
  have h2 : 0 ≤ IntKind.u64.wrap x := by rw [h1]; omega
  have h3 : IntKind.u64.wrap x < 18446744073709551616 := by rw [h1]; omega
  generalize IntKind.u64.wrap x = y at *
  clear h1
  rw [Int.tdiv_eq_ediv_of_nonneg h2]
  have h4 : y / k ≤ y := Int.ediv_le_self k h2
  have h5 : 0 ≤ y / k := Int.ediv_nonneg h2 (by omega)
  exact IntWalk.u64_in _ (by omega)

set_option maxHeartbeats 800000 in
theorem d_mix (s i : Nat) (w : World) :
    Calls Try.prog 19 #[.int .u64 (s : Int), .int .u64 (i : Int)] w fun e w' => e = .returned (.int .u64 ((mixn s i : Nat) : Int)) ∧ w = w' := by
  have hm := mix_int s i
  rw [wdiv _ 1073741824 (by decide), wdiv _ 134217728 (by decide), wdiv _ 2147483648 (by decide)] at hm
  have HM := Lib.hid hm
  clear hm
  go_enter Try.func19, Try.ntmps19
  go_wp2
  go_ret
  exact ⟨ret_int HM.out, rfl⟩

set_option maxHeartbeats 800000 in
theorem d_skip (s d n : Nat) (w : World) :
    Calls Try.prog 15 #[.agg #[.int .u64 (s : Int), .int .u64 (d : Int)], .int .u64 (n : Int)] w (Tells (.agg #[.int .u64 (s : Int), .int .u64 (((d + n) % 18446744073709551616 : Nat) : Int)]) w) := by
  obtain ⟨y, hy⟩ : ∃ y, (d + n) % 18446744073709551616 = y := ⟨_, rfl⟩
  have ey : IntKind.u64.wrap ((d : Int) + (n : Int)) = (y : Int) := by rw [w64_add, hy]
  rw [hy]
  clear hy
  go_enter Try.func15, Try.ntmps15
  go_wp2
  go_returns
  exact ⟨rfl, ((Ext.refl _).alloc _).alloc _⟩

set_option maxHeartbeats 800000 in
set_option maxRecDepth 100000 in
theorem d_split (s d n : Nat) (w : World) (hd : d < 18446744073709551616) :
    Calls Try.prog 16 #[.agg #[.int .u64 (s : Int), .int .u64 (d : Int)], .int .u64 (n : Int)] w (Tells (.agg #[.int .u64 ((mixn s n ^^^ d : Nat) : Int), .int .u64 0]) w) := by
  have HM := Lib.hid (fun u => (d_mix s n u).mono fun _ _ h => (⟨h.1, h.2.symm⟩ : _ ∧ _ = u))
  have hX := mixn_lt s n
  generalize mixn s n = X at *
  have ex : bits .xor .u64 (X : Int) (d : Int) = ((X ^^^ d : Nat) : Int) := u64_xor_nat _ _ hX hd
  generalize X ^^^ d = Y at *
  go_enter Try.func16, Try.ntmps16
  go_wp2
  go_region_with (go_at_call 19; refine (HM.out _).mono ?_; rintro e w1 ⟨rfl, rfl⟩)
  all_goals go_wp2
  all_goals go_returns
  all_goals exact ⟨rfl, (((Ext.refl _).alloc _).alloc _).drew⟩

set_option maxHeartbeats 800000 in
set_option maxRecDepth 100000 in
theorem d_coin (s d n : Nat) (w : World) (hn : n < 18446744073709551616) :
    Calls Try.prog 18 #[.agg #[.int .u64 (s : Int), .int .u64 (d : Int)], .int .u64 (n : Int)] w (Tells (.int .u8 ((coin s n : Nat) : Int)) w) := by
  obtain ⟨a, ha⟩ : ∃ a, n / 8 = a := ⟨_, rfl⟩
  obtain ⟨r, hr⟩ : ∃ r, n % 8 = r := ⟨_, rfl⟩
  have hq : Int.tdiv (n : Int) 8 = (a : Int) := by rw [Int.tdiv_eq_ediv_of_nonneg (by omega)]; omega
  have hm : Int.tmod (n : Int) 8 = (r : Int) := by rw [Int.tmod_eq_emod_of_nonneg (by omega)]; omega
  have haI : (a : Int) < 18446744073709551616 := by omega
  have hr8 : r < 8 := by omega
  have HM := Lib.hid (fun u => d_mix s a u)
  have hx0 : mixn s a < 18446744073709551616 := mixn_lt s a
  have HCO := Lib.hid (show coin s n = mixn s a / 256 ^ r % 256 from by unfold coin; rw [ha, hr])
  generalize coin s n = cn at *
  generalize mixn s a = X at *
  clear ha hr
  go_enter Try.func18, Try.ntmps18
  go_wp2_with fail
  refine (HM.out _).mono ?_
  rintro e w1 ⟨rfl, rfl⟩
  have HP := Lib.hid (show (X : Int) / 2 ^ (8 * r) % 256 = (cn : Int) from by
    rw [HCO.out, show (256 : Nat) ^ r = 2 ^ (8 * r) from by rw [Nat.pow_mul], Int.natCast_emod, Int.natCast_ediv, Int.natCast_pow]
    rfl)
  go_wp2
  go_ret
  exact ⟨ret_int HP.out, (Ext.refl _).alloc _⟩
end Go.Proofs.Ytjedogkfllddaaa

/-
  What Bytes of layer 7 does. Conditions: numbers below 2^64.
-/
namespace Go.Proofs.Ytjedogkfllddaaa
open Go.RowKit
open Pol (co Sm)

/-- The first k coins, and 0 behind them. -/
def ck (s d k i : Nat) : Nat := if i < k then coin s ((d + i) % 18446744073709551616) else 0
theorem ck_lt (s d k i : Nat) : ck s d k i < 256 := by
  unfold ck
  split
  · exact coin_lt _ _
  · omega
theorem ck_step (s d k i : Nat) : upd (ck s d k) k (coin s ((d + k) % 18446744073709551616)) i = ck s d (k + 1) i := by
  unfold upd ck
  by_cases e : i = k
  · subst e; rw [if_pos rfl, if_pos (by omega)]
  · rw [if_neg e]
    by_cases h : i < k
    · rw [if_pos h, if_pos (by omega)]
    · rw [if_neg h, if_neg (by omega)]
theorem ck_all (s d n : Nat) : tab n (ck s d n) = coins7 s d n := by
  unfold coins7 tab
  refine List.map_congr_left fun i hi => ?_
  unfold ck
  rw [if_pos (List.mem_range.1 hi)]

theorem blk3 (w : World) (A B : Obj) (s d n : Nat) : Blk (((w.alloc A).alloc B).alloc (.cells (bt n fun _ => 0) 5)) (w.heap.size + 1 + 1) n (ck s d 0) := by
  have h := (Blk.new ((w.alloc A).alloc B) n (fun _ => 0)).congr (f' := ck s d 0) (fun i _ => by unfold ck; rw [if_neg (by omega)])
  have e : ((w.alloc A).alloc B).heap.size = w.heap.size + 1 + 1 := by simp
  rw [e] at h
  exact h
theorem old3 (w : World) (A B C : Obj) : (((w.alloc A).alloc B).alloc C).heap[w.heap.size]? = some A :=
  (heap_alloc_old _ _ (by simp; omega)).trans (heap_alloc2_old _ _ _)
theorem mid3 (w : World) (A B C : Obj) : (((w.alloc A).alloc B).alloc C).heap[w.heap.size + 1]? = some B :=
  (heap_alloc_old _ _ (by simp)).trans (heap_alloc2_new _ _ _)
theorem results_tmp_cell {fn : Func} {p u : Tmp} {ty : TypeId} (h : fn.results = #[.tmp u, .cell p ty]) (tmps : Array Value) (P : Program) (w : World) :
    (results fn tmps).run P w =
      ((asAddr (tmps.getD p undef)).run P w).andThen fun a w₁ => ((loadVar ty a).run P w₁).andThen fun v w₂ => .ok (.tuple #[tmps.getD u undef, v]) w₂ := by
  simp only [results, h]
  simp [Sem.run_bind, Result.andThen]
/-- A result that is a slot, and one that is two cells of a block. -/
theorem results_slot_two {fn : Func} {p u : Tmp} (h : fn.results = #[.tmp u, .cell p 25]) (tmps : Array Value) (w : World) (g : Nat) (v : Value) (x y : Int) (hp : tmps.getD p undef = .pointer (some ⟨g, 0, none⟩)) (hu : tmps.getD u undef = v)
    (hg : w.heap[g]? = some (.cells #[.int .u64 x, .int .u64 y] 25 (0, 0))) :
    (results fn tmps).run Try.prog w = .ok (.tuple #[v, .agg #[.int .u64 x, .int .u64 y]]) w := by
  rw [results_tmp_cell h, hp, hu]
  have l1 := run_loadVar_row (P := Try.prog) w g 25 25 #[.int .u64 x, .int .u64 y] (0, 0) _ hg Try.underlying25 rfl (by kernel_rfl)
  show Result.andThen ((loadVar 25 ⟨g, 0, none⟩).run Try.prog w) _ = _
  rw [l1]
  rfl

set_option maxHeartbeats 1600000 in
set_option maxRecDepth 100000 in
theorem d_bytes (s d : Nat) (m : Int) (w : World) (h1 : -9223372036854775808 ≤ m) (h2 : m ≤ 9223372036854775807) :
    Calls Try.prog 10 #[.agg #[.int .u64 (s : Int), .int .u64 (d : Int)], .int .i64 m] w (BytesE s d (many7 m) w) := by
  have HALL := Lib.hid (ck_all s d)
  have HC := Lib.hid (fun n u (hn : n < 18446744073709551616) => d_coin s d n u hn)
  have HSK := Lib.hid (fun n u => d_skip s d n u)
  obtain ⟨N, hN⟩ : ∃ N, many7 m = N := ⟨_, rfl⟩
  rw [hN]
  have hN' : N = min m.toNat 65536 := by rw [← hN]; rfl
  have hN6 : N ≤ 65536 := by omega
  clear hN
  obtain ⟨x, hx⟩ : ∃ x : Int, (if m < 0 then 0 else if m ≤ 65536 then m else 65536) = x := ⟨_, rfl⟩
  have hmk := fun W => show (Instr.makeSlice 26 (.int .i64 x) (.int .i64 x)).run Try.prog W = .ok (.slice (some ⟨W.heap.size, 0, none⟩) N N) (W.alloc (.cells (bt N fun _ => 0) 5)) from by
    have e : x = (N : Int) := by rw [← hx]; split <;> (try split) <;> omega
    rw [e]; exact run_make_u8 N (by omega) W
  have hcase : (m < 0 ∧ x = 0) ∨ (0 ≤ m ∧ m ≤ 65536 ∧ x = m) ∨ (0 ≤ m ∧ 65536 < m ∧ x = 65536) := by
    by_cases c1 : m < 0
    · rw [if_pos c1] at hx; exact .inl ⟨c1, hx.symm⟩
    · rw [if_neg c1] at hx
      by_cases c2 : m ≤ 65536
      · rw [if_pos c2] at hx; exact .inr (.inl ⟨by omega, c2, hx.symm⟩)
      · rw [if_neg c2] at hx; exact .inr (.inr ⟨by omega, by omega, hx.symm⟩)
  clear hx hN'
  rcases hcase with ⟨c1, rfl⟩ | ⟨c1, c2, rfl⟩ | ⟨c1, c2, rfl⟩
  all_goals
    go_enter Try.func10, Try.ntmps10
    go_wp2
    clear hmk
    go_loopg [14] N (fun g v wx => ∃ j : Nat, j + g = N ∧ v = .int .i64 (j : Int) ∧ Blk wx (w.heap.size + 1 + 1) N (ck s d j) ∧ wx.heap[w.heap.size]? = some (.cells #[.int .u64 (s : Int), .int .u64 (d : Int)] 25 (0, 0)) ∧ wx.heap[w.heap.size + 1]? = some (.cells #[.int .u64 0, .int .u64 0] 25 (0, 0)) ∧ Ext w wx)
    case atStart => exact ⟨0, by omega, rfl, blk3 w _ _ s d N, old3 w _ _ _, mid3 w _ _ _, (((Ext.refl _).alloc _).alloc _).alloc _⟩
    case round =>
      obtain ⟨j, hjg, rfl, hblk, hg1, hg2, hx⟩ := hrel
      have HY := Lib.hid hx
      have HL := Lib.hid hblk
      have HG1 := Lib.hid hg1
      have HG2 := Lib.hid hg2
      have a1 : wr.cell? ⟨w.heap.size, 0, none⟩ = some (.int .u64 (s : Int)) := by rw [cell_of_row wr _ 0 _ _ _ hg1]; rfl
      have a2 : wr.cell? ⟨w.heap.size, 1, none⟩ = some (.int .u64 (d : Int)) := by rw [cell_of_row wr _ 1 _ _ _ hg1]; rfl
      clear hx hblk hg1 hg2
      cases gk with
      | zero =>
        obtain rfl : j = N := by omega
        clear hjg
        have hnu : IntKind.u64.wrap (j : Int) = (j : Int) := IntWalk.u64_in _ (by omega)
        obtain ⟨y, hy⟩ : ∃ y, (d + j) % 18446744073709551616 = y := ⟨_, rfl⟩
        have HK := Lib.hid (hy ▸ HSK.out j wr)
        have HYN := Lib.hid hy
        clear hy
        go_wp2_with fail
        refine HK.out.mono ?_
        rintro e w1 ⟨rfl, hx1⟩
        have HG3 := Lib.hid ((hx1.below.block _ (by have := HY.out.size; have := HL.out.lt; omega)).trans HG2.out)
        have b1 : w1.cell? ⟨w.heap.size + 1, 0, none⟩ = some (.int .u64 0) := by rw [cell_of_row w1 _ 0 _ _ _ HG3.out]; rfl
        have b2 : w1.cell? ⟨w.heap.size + 1, 1, none⟩ = some (.int .u64 0) := by rw [cell_of_row w1 _ 1 _ _ _ HG3.out]; rfl
        have f1 : w1.frozen? ⟨w.heap.size + 1, 0, none⟩ = false := frozen_of_row w1 _ 0 _ _ HG3.out
        have f2 : w1.frozen? ⟨w.heap.size + 1, 1, none⟩ = false := frozen_of_row w1 _ 1 _ _ HG3.out
        have HX1 := Lib.hid hx1
        clear hx1
        have HG4 := Lib.hid (heap_setCell_same _ (w.heap.size + 1) 1 _ _ (.int .u64 (y : Int)) (heap_setCell_same w1 (w.heap.size + 1) 0 _ _ (.int .u64 (s : Int)) HG3.out))
        have HX2 := Lib.hid (((HY.out.trans HX1.out).setCell (p := ⟨w.heap.size + 1, 0, none⟩) (Nat.le_succ _) (.int .u64 (s : Int))).setCell (p := ⟨w.heap.size + 1, 1, none⟩) (Nat.le_succ _) (.int .u64 (y : Int)))
        have hb5 : Blk ((w1.setCell ⟨w.heap.size + 1, 0, none⟩ (.int .u64 (s : Int))).setCell ⟨w.heap.size + 1, 1, none⟩ (.int .u64 (y : Int))) (w.heap.size + 1 + 1) j (ck s d j) :=
          (heap_setCell_other _ ⟨w.heap.size + 1, 1, none⟩ _ _ (by show w.heap.size + 1 + 1 ≠ w.heap.size + 1; omega)).trans ((heap_setCell_other w1 ⟨w.heap.size + 1, 0, none⟩ _ _ (by show w.heap.size + 1 + 1 ≠ w.heap.size + 1; omega)).trans (HL.out.ext HX1.out))
        have HR := Lib.hid (HALL.out j ▸ hb5.reads (fun i _ => ck_lt s d j i))
        clear hb5
        go_wp2
        refine bodyPost_ret (results_slot_two Try.results10 _ _ (w.heap.size + 1) _ (s : Int) (y : Int) rfl rfl HG4.out) rfl ?_
        exact ⟨_, _, by rw [HYN.out]; rfl, Nat.le_refl _, HR.out, HX2.out⟩
      | succ g =>
        have hj : j < N := by omega
        have hjI : (j : Int) < (N : Int) := by omega
        obtain ⟨y, hy⟩ : ∃ y, (d + j) % 18446744073709551616 = y := ⟨_, rfl⟩
        have hyM : y < 18446744073709551616 := by omega
        have ey : IntKind.u64.wrap ((d : Int) + (j : Int)) = (y : Int) := by rw [w64_add, hy]
        have ek : IntKind.u64.wrap (j : Int) = (j : Int) := IntWalk.u64_in _ (by omega)
        obtain ⟨z, hz⟩ : ∃ z, coin s y = z := ⟨_, rfl⟩
        have HZ := Lib.hid (hz ▸ HC.out y wr hyM)
        have HST := Lib.hid (show ∀ i, upd (ck s d j) j z i = ck s d (j + 1) i from fun i => by rw [← hz, ← hy]; exact ck_step s d j i)
        clear hy hz
        go_wp2_with fail
        refine HZ.out.mono ?_
        rintro e w1 ⟨rfl, hx1⟩
        have HL1 := Lib.hid (HL.out.ext hx1)
        have hc3 := HL1.out.cell j hj
        have hfz := HL1.out.frozen j
        have HS := HY.out.size
        have HLT := HL.out.lt
        have HU := Lib.hid ((HL1.out.store j z).congr (f' := ck s d (j + 1)) (fun i _ => HST.out i))
        have HE := Lib.hid ((HY.out.trans hx1).setCell (p := ⟨w.heap.size + 1 + 1, j, none⟩) (by show _ ≤ w.heap.size + 1 + 1; omega) (.int .u8 (z : Int)))
        have HA := Lib.hid ((heap_setCell_other w1 ⟨w.heap.size + 1 + 1, j, none⟩ _ (.int .u8 (z : Int)) (by show w.heap.size ≠ w.heap.size + 1 + 1; omega)).trans ((hx1.below.block _ (by omega)).trans HG1.out))
        have HB := Lib.hid ((heap_setCell_other w1 ⟨w.heap.size + 1 + 1, j, none⟩ _ (.int .u8 (z : Int)) (by show w.heap.size + 1 ≠ w.heap.size + 1 + 1; omega)).trans ((hx1.below.block _ (by omega)).trans HG2.out))
        clear hx1 HS HLT
        go_wp2
        go_roundg g
        case measure => omega
        case rel => exact ⟨j + 1, by omega, by go_num, HU.out, HA.out, HB.out, HE.out⟩
end Go.Proofs.Ytjedogkfllddaaa

/-
  What Next of layer 7 does; with it the layer's own functions do what the laws ask of them. Conditions: numbers below 2^64.
-/
namespace Go.Proofs.Ytjedogkfllddaaa
open Go.RowKit
open Pol (co Sm)

theorem or_up (a c k : Nat) (h : a < 256 ^ k) : a ||| c * 2 ^ (8 * k) = a + c * 256 ^ k := by
  rw [show (256 : Nat) ^ k = 2 ^ (8 * k) from by rw [Nat.pow_mul]] at *
  rw [Nat.or_comm, Nat.mul_comm, ← Nat.two_pow_add_eq_or_of_lt h, Nat.add_comm, Nat.mul_comm]

set_option maxHeartbeats 1600000 in
set_option maxRecDepth 100000 in
theorem d_next (s d : Nat) (w : World) :
    Calls Try.prog 11 #[.agg #[.int .u64 (s : Int), .int .u64 (d : Int)]] w (Tells (.tuple #[.int .u64 ((num8 s d 8 : Nat) : Int), .agg #[.int .u64 (s : Int), .int .u64 (((d + 8) % 18446744073709551616 : Nat) : Int)]]) w) := by
  have HB := Lib.hid (fun u => show Calls Try.prog 10 #[.agg #[.int .u64 (s : Int), .int .u64 (d : Int)], .int .i64 8] u (BytesE s d 8 u) from d_bytes s d 8 u (by decide) (by decide))
  obtain ⟨y, hy⟩ : ∃ y, (d + 8) % 18446744073709551616 = y := ⟨_, rfl⟩
  have HE := Lib.hid hy
  rw [hy]
  clear hy
  go_enter Try.func11, Try.ntmps11
  go_wp2_with fail
  refine (HB.out _).mono ?_
  rintro e w1 ⟨B, c, rfl, hc, hr, hx⟩
  rw [HE.out]
  obtain ⟨W, hW⟩ : ∃ W, W = w1.alloc (.cells #[.int .u64 (s : Int), .int .u64 (y : Int)] 25) := ⟨_, rfl⟩
  have hxw : Ext w W := hW ▸ ((((Ext.refl w).alloc _).alloc _).trans hx).alloc _
  have hrw : Rd W B (coins7 s d 8) := hW ▸ hr.ext ((Ext.refl _).alloc _)
  have hs1 := hx.size
  have hg2 : W.heap[w.heap.size + 1]? = some (.cells #[.int .u64 0, .int .u64 0] 25 (0, 0)) := hW ▸ (heap_alloc_old _ _ (by simp at hs1; omega)).trans ((hx.below.block _ (by simp)).trans (heap_alloc2_new _ _ _))
  have hg3 : W.heap[w1.heap.size]? = some (.cells #[.int .u64 (s : Int), .int .u64 (y : Int)] 25 (0, 0)) := hW ▸ heap_alloc_new _ _
  have a1 : W.cell? ⟨w1.heap.size, 0, none⟩ = some (.int .u64 (s : Int)) := by rw [cell_of_row W _ 0 _ _ _ hg3]; rfl
  have a2 : W.cell? ⟨w1.heap.size, 1, none⟩ = some (.int .u64 (y : Int)) := by rw [cell_of_row W _ 1 _ _ _ hg3]; rfl
  have b1 : W.cell? ⟨w.heap.size + 1, 0, none⟩ = some (.int .u64 0) := by rw [cell_of_row W _ 0 _ _ _ hg2]; rfl
  have b2 : W.cell? ⟨w.heap.size + 1, 1, none⟩ = some (.int .u64 0) := by rw [cell_of_row W _ 1 _ _ _ hg2]; rfl
  have f1 : W.frozen? ⟨w.heap.size + 1, 0, none⟩ = false := frozen_of_row W _ 0 _ _ hg2
  have f2 : W.frozen? ⟨w.heap.size + 1, 1, none⟩ = false := frozen_of_row W _ 1 _ _ hg2
  have HXW := Lib.hid hxw
  have HRW := Lib.hid hrw
  have HG2 := Lib.hid hg2
  have HW := Lib.hid hW
  clear hr hx hxw hrw hg2 hg3 hW hs1
  go_wp2
  rw [← HW.out]
  clear HW
  generalize w1.heap.size = g3 at *
  go_loopg [6, 16] 8 (fun g v u wx => ∃ j : Nat, j + g = 8 ∧ u = .int .i64 (j : Int) ∧ v = .int .u64 ((num8 s d j : Nat) : Int) ∧ W = wx)
  case atStart => exact ⟨0, by omega, rfl, rfl, rfl⟩
  case round =>
    obtain ⟨j, hjg, rfl, rfl, rfl⟩ := hrel
    cases gk with
    | zero =>
      obtain rfl : j = 8 := by omega
      clear hjg
      have HX2 := Lib.hid ((HXW.out.setCell (p := ⟨w.heap.size + 1, 0, none⟩) (Nat.le_succ _) (.int .u64 (s : Int))).setCell (p := ⟨w.heap.size + 1, 1, none⟩) (Nat.le_succ _) (.int .u64 (y : Int)))
      generalize num8 s d 8 = X at *
      have HG4 := Lib.hid (heap_setCell_same _ (w.heap.size + 1) 1 _ _ (.int .u64 (y : Int)) (heap_setCell_same W (w.heap.size + 1) 0 _ _ (.int .u64 (s : Int)) HG2.out))
      go_wp2
      go_region_with fail
      all_goals go_wp2
      all_goals refine bodyPost_ret (results_slot_two Try.results11 _ _ (w.heap.size + 1) _ (s : Int) (y : Int) rfl rfl HG4.out) rfl ?_
      all_goals exact ⟨rfl, HX2.out.drew⟩
    | succ g =>
      have hj : j < 8 := by omega
      have hjI : (j : Int) < 8 := by omega
      obtain ⟨b, o, e1, hc1⟩ := HRW.out.2 j (by rw [coins7_len]; exact hj)
      subst e1
      have hcz : co (coins7 s d 8) j = coin s ((d + j) % 18446744073709551616) := by unfold coins7; rw [co_tab, if_pos hj]
      rw [hcz] at hc1
      obtain ⟨z, hz⟩ : ∃ z, coin s ((d + j) % 18446744073709551616) = z := ⟨_, rfl⟩
      have hZl : z < 256 := by rw [← hz]; exact coin_lt _ _
      obtain ⟨X, hX⟩ : ∃ X, num8 s d j = X := ⟨_, rfl⟩
      obtain ⟨Y, hY⟩ : ∃ Y, num8 s d (j + 1) = Y := ⟨_, rfl⟩
      obtain ⟨t, ht⟩ : ∃ t, z * 256 ^ j = t := ⟨_, rfl⟩
      have hXt : Y = X + t := by rw [← hY, ← ht, ← hz, ← hX]; rfl
      have hXl : X < 256 ^ j := by rw [← hX]; exact num8_lt s d j
      have hYM : Y < 18446744073709551616 := by
        rw [← hY]
        exact Nat.lt_of_lt_of_le (num8_lt s d (j + 1)) (Nat.le_trans (Nat.pow_le_pow_right (by omega) (show j + 1 ≤ 8 by omega)) (by decide))
      have hor : X ||| t = Y := by
        have h := or_up X z j hXl
        rw [ht, show 2 ^ (8 * j) = 256 ^ j from by rw [Nat.pow_mul], ht] at h
        rw [h, hXt]
      have esh : IntKind.u64.wrap ((z : Int) * 2 ^ (8 * j)) = (t : Int) := by
        rw [show (2 : Int) ^ (8 * j) = ((256 ^ j : Nat) : Int) from by rw [Int.natCast_pow, Int.pow_mul]; rfl, ← Int.natCast_mul, ht]
        exact IntWalk.u64_in _ (by omega)
      have eor : bits .or .u64 (X : Int) (t : Int) = (Y : Int) := by rw [u64_or_nat _ _ (by omega) (by omega), hor]
      have HYE := Lib.hid hY
      rw [hz] at hc1
      rw [hX]
      clear hXl hX hY ht hor hXt hcz hz
      go_wp2
      go_roundg g
      case measure => omega
      case rel => exact ⟨j + 1, by omega, by go_num, by rw [HYE.out], rfl⟩

theorem padSaid : PadSaid where
  next := fun s d w _ _ => d_next s d w
  bytes := fun s d m w _ _ h1 h2 => d_bytes s d m w h1 h2
  skip := fun s d n w _ _ _ => d_skip s d n w
  split := fun s d n w _ hd _ => d_split s d n w hd
end Go.Proofs.Ytjedogkfllddaaa

/-
  An argument that is a slice of bytes, or of points, reads as a list. Conditions: none.
-/
namespace Go.Proofs.Ytjedogkfllddaaa
open Go.RowKit
open Go.ChangeShapes Go.WideShapes Go.ChangeAt
open Pol (co Sm)

section
variable {H : Type} {enc : TypeId × Value → H} {w : World} {base : Nat} {spare : Nat → Bool} {held : Bool}
theorem open_bytes {fuel len cap : Nat} {a : Option Addr} {x : DataW H × List MemPlace} (h : DataW.trod enc Try.prog w base spare held fuel 26 [.slice a len cap] = some x) :
    ∃ l : List Nat, l.length = len ∧ len ≤ cap ∧ Rd w a l := by
  rcases open_ints Try.underlying26 Try.underlying5 (by kernel_rfl) h with ⟨hcs, _⟩ | ⟨a', len', cap', zs, hcs, _, hl, _, hz, _, hcell, hwz⟩
  · simp at hcs
    obtain ⟨rfl, rfl, rfl⟩ := hcs
    exact ⟨[], rfl, Nat.le_refl _, Rd.nil _ _⟩
  · simp at hcs
    obtain ⟨rfl, rfl, rfl⟩ := hcs
    have hlz : len ≤ zs.length := by rw [hz]; split <;> omega
    have hnat : ∀ i, i < zs.length → ∃ n : Nat, zs.getD i 0 = (n : Int) ∧ n < 256 := fun i hi => by
      have hm : zs.getD i 0 ∈ zs := by rw [List.getD_eq_getElem?_getD, List.getElem?_eq_getElem hi]; exact List.getElem_mem hi
      exact nat_u8 (hwz _ hm)
    refine ⟨(List.range len).map (fun i => (zs.getD i 0).toNat), by simp, hl, ?_, fun i hi => ?_⟩
    · refine Pol.co_lt_of (fun v hv => ?_)
      obtain ⟨i, hi, rfl⟩ := List.mem_map.1 hv
      obtain ⟨n, hn, hn'⟩ := hnat i (by have := List.mem_range.1 hi; omega)
      show (zs.getD i 0).toNat < 256
      rw [hn]; omega
    · have hi' : i < len := by simpa using hi
      obtain ⟨b, o, rfl, hc⟩ := ints_at hcell (by omega)
      refine ⟨b, o, rfl, ?_⟩
      rw [hc i (by omega)]
      obtain ⟨n, hn, _⟩ := hnat i (by omega)
      congr 2
      unfold co
      rw [List.getElem?_map, List.getElem?_range hi']
      show zs.getD i 0 = (((zs.getD i 0).toNat : Nat) : Int)
      rw [hn]; omega
end
end Go.Proofs.Ytjedogkfllddaaa

/-
  The law PadParts, walked, under what layer 7's functions are to do. Conditions: none.
-/
namespace Go.Proofs.Ytjedogkfllddaaa
open Go.RowKit
open Pol (co Sm)

theorem coins7_append (s d N : Nat) : ∀ k, coins7 s d N ++ coins7 s ((d + N) % 18446744073709551616) k = coins7 s d (N + k)
  | 0 => List.append_nil _
  | k + 1 => by
    rw [← coins7_succ, ← List.append_assoc, coins7_append s d N k, ← Nat.add_assoc, ← coins7_succ s d (N + k), show ((d + N) % 18446744073709551616 + k) % 18446744073709551616 = (d + (N + k)) % 18446744073709551616 from by omega]
/-- A source in memory that may be written. -/
def Src (w : World) (g : Nat) (s d : Int) : Prop := (w.cell? ⟨g, 0, none⟩ = some (.int .u64 s) ∧ w.cell? ⟨g, 1, none⟩ = some (.int .u64 d)) ∧ w.frozen? ⟨g, 0, none⟩ = false ∧ w.frozen? ⟨g, 1, none⟩ = false
theorem Src.ext {w w' : World} {g : Nat} {s d : Int} (h : Src w g s d) (hx : Ext w w') : Src w' g s d :=
  ⟨src_keep h.1 hx, (hx.below.frozen (p := ⟨g, 0, none⟩) (block_lt_of_cell h.1.1)).trans h.2.1, (hx.below.frozen (p := ⟨g, 1, none⟩) (block_lt_of_cell h.1.2)).trans h.2.2⟩
theorem Src.new (w : World) (s d : Int) : Src (w.alloc (.cells #[.int .u64 s, .int .u64 d] 25)) w.heap.size s d :=
  ⟨src_new w s d, frozen_of_row _ _ _ _ _ (heap_alloc_new w _), frozen_of_row _ _ _ _ _ (heap_alloc_new w _)⟩
theorem off_ne (g : Nat) {a b : Nat} (h : a ≠ b) : (⟨g, a, none⟩ : Addr) ≠ ⟨g, b, none⟩ := fun e => h (by injection e)
theorem Src.store {w : World} {g : Nat} {s d : Int} (h : Src w g s d) (s' d' : Int) : Src ((w.setCell ⟨g, 0, none⟩ (.int .u64 s')).setCell ⟨g, 1, none⟩ (.int .u64 d')) g s' d' := by
  refine ⟨⟨?_, ?_⟩, by rw [World.frozen?_setCell, World.frozen?_setCell]; exact h.2.1, by rw [World.frozen?_setCell, World.frozen?_setCell]; exact h.2.2⟩
  · rw [World.cell?_setCell_other _ _ _ _ (off_ne g (by omega))]
    exact World.cell?_setCell_same' _ _ _ (by rw [h.1.1]; rfl)
  · exact World.cell?_setCell_same' _ _ _ (by rw [World.cell?_setCell_other _ _ _ _ (off_ne g (by omega)), h.1.2]; rfl)
theorem Src.other {w : World} {g g' : Nat} {s d : Int} (h : Src w g s d) (hne : g ≠ g') (k : Nat) (v : Value) : Src (w.setCell ⟨g', k, none⟩ v) g s d :=
  ⟨⟨(World.cell?_setCell_other _ _ _ _ (fun e => hne (by injection e with e1; exact e1.symm))).trans h.1.1, (World.cell?_setCell_other _ _ _ _ (fun e => hne (by injection e with e1; exact e1.symm))).trans h.1.2⟩, by rw [World.frozen?_setCell]; exact h.2.1, by rw [World.frozen?_setCell]; exact h.2.2⟩
theorem grown_set' (w : World) (g o : Nat) (v : Value) : w.grownBy (w.setCell ⟨g, o, none⟩ v) (some g) :=
  ⟨rfl, rfl, rfl, by simp [World.setCell], fun k _ hk => Below.heap_setCell _ _ _ k (fun e => hk (by rw [e]))⟩
theorem mine_keep {w w' : World} {base : Nat} {v : Value} {l : List Nat} {row : Option Nat} (h : Mine w base v l) (hg : w.grownBy w' row) (hne : ∀ k, v.ownBlock = some k → some k ≠ row) : Mine w' base v l :=
  World.ownsRow.kept h hg (by
    cases hb : v.ownBlock with
    | none => exact .inl rfl
    | some k => exact .inr (hne k hb))
theorem Src.keep {w w' : World} {g : Nat} {s d : Int} {row : Option Nat} (h : Src w g s d) (hg : w.grownBy w' row) (hne : some g ≠ row) : Src w' g s d :=
  ⟨⟨hg.cell h.1.1 hne, hg.cell h.1.2 hne⟩, (World.frozen?_of_block (a := ⟨g, 0, none⟩) (hg.block g (block_lt_of_cell h.1.1) hne)).trans h.2.1, (World.frozen?_of_block (a := ⟨g, 1, none⟩) (hg.block g (block_lt_of_cell h.1.1) hne)).trans h.2.2⟩
/-- Bytes read the same behind a store into a source. -/
theorem Rd.src {w : World} {B : Option Addr} {l : List Nat} {g : Nat} {s d : Int} (hr : Rd w B l) (h : Src w g s d) (s' d' : Int) : Rd ((w.setCell ⟨g, 0, none⟩ (.int .u64 s')).setCell ⟨g, 1, none⟩ (.int .u64 d')) B l :=
  ⟨hr.1, fun i hi => by
    obtain ⟨b, o, e, hc⟩ := hr.2 i hi
    refine ⟨b, o, e, ?_⟩
    rw [World.cell?_setCell_other _ _ _ _ (fun e' => by rw [← e', h.1.2] at hc; cases hc), World.cell?_setCell_other _ _ _ _ (fun e' => by rw [← e', h.1.1] at hc; cases hc)]
    exact hc⟩

set_option maxHeartbeats 1600000 in
set_option maxRecDepth 100000 in
theorem parts7_big (C : PadSaid) (s d : Int) (A : Option Addr) (np ca : Nat) (w : World) (h : 20 < np) :
    Calls Try.prog 4 #[.int .u64 s, .int .u64 d, .slice A np ca] w (Holds w) := by
  have HAW := Lib.hid (fun u => awake7 C u)
  have e0 : decide ((20 : Int) < (np : Int)) = true := decide_eq_true (by omega)
  clear C h
  go_enter Try.func4, Try.ntmps4
  go_wp2_with fail
  refine (HAW.out w).mono ?_
  rintro e w1 ⟨rfl, hx1⟩
  have HX1 := Lib.hid hx1
  clear hx1
  go_wp2_with fail
  refine (HAW.out w1).mono ?_
  rintro e w2 ⟨rfl, hx2⟩
  have HX2 := Lib.hid (HX1.out.trans hx2)
  clear hx2
  go_wp2
  go_ret
  exact ⟨rfl, HX2.out⟩

set_option maxHeartbeats 6400000 in
set_option maxRecDepth 100000 in
theorem parts7_walk (C : PadSaid) (s d : Nat) (p : List Nat) (A : Option Addr) (ca : Nat) (w : World) (hs : s < 18446744073709551616) (hd : d < 18446744073709551616) (hp : Rd w A p) :
    Calls Try.prog 4 #[.int .u64 (s : Int), .int .u64 (d : Int), .slice A p.length ca] w (Holds w) := by
  by_cases hbig : 20 < p.length
  · exact parts7_big C s d A _ ca w hbig
  have HAW := Lib.hid (fun u => awake7 C u)
  have HP := Lib.hid hp
  have HB := Lib.hid (fun (D k : Nat) u (hD : D < 18446744073709551616) (hk : k ≤ 65536) => show Calls Try.prog 10 #[.agg #[.int .u64 (s : Int), .int .u64 (D : Int)], .int .i64 (k : Int)] u (BytesE s D k u) from by
    have h := C.bytes s D (k : Int) u hs hD (by omega) (by omega)
    rwa [show many7 (k : Int) = k from by unfold many7; omega] at h)
  have HSK := Lib.hid (fun (D k : Nat) u (hD : D < 18446744073709551616) (hk : k < 18446744073709551616) => C.skip s D k u hs hD hk)
  have HSM := Lib.hid (coins7_sm s d)
  have HCL := Lib.hid (fun D n => coins7_len s D n)
  have HAP := Lib.hid (coins7_append s d)
  have HSA := Lib.hid (fun (n : Nat) X Y cx cy W (hn : n ≤ 1000) (hX : Rd W X (coins7 s d n)) (hY : Rd W Y (coins7 s d n)) => show Calls Try.prog 13 #[.slice X n cx, .slice Y n cy] W (Hands (.bool true) W) from by
    have h := same_true (coins7 s d n) X Y cx cy W hX hY (by rw [coins7_len]; omega)
    rwa [coins7_len] at h)
  have e0 : decide ((20 : Int) < (p.length : Int)) = false := decide_eq_false (by omega)
  have hnp : p.length ≤ 20 := by omega
  unfold BytesE at HB
  generalize hN : p.length = np at *
  have HN := Lib.hid hN
  clear C hp hbig hN
  go_enter Try.func4, Try.ntmps4
  go_wp2_with fail
  refine (HAW.out w).mono ?_
  rintro e w1 ⟨rfl, hx1⟩
  have HX1 := Lib.hid hx1
  clear hx1
  go_wp2
  have HF := Lib.hid ((Src.new w1 (s : Int) (d : Int)).ext ((Ext.refl _).alloc (.cells #[.int .u64 (s : Int), .int .u64 (d : Int)] 25)))
  have HG := Lib.hid (show Src ((w1.alloc (.cells #[.int .u64 (s : Int), .int .u64 (d : Int)] 25)).alloc (.cells #[.int .u64 (s : Int), .int .u64 (d : Int)] 25)) (w1.heap.size + 1) (s : Int) (d : Int) from by
    have h := Src.new (w1.alloc (.cells #[.int .u64 (s : Int), .int .u64 (d : Int)] 25)) (s : Int) (d : Int)
    rwa [show (w1.alloc (.cells #[.int .u64 (s : Int), .int .u64 (d : Int)] 25)).heap.size = w1.heap.size + 1 from by simp] at h)
  have HXW := Lib.hid (show Ext w1 ((w1.alloc (.cells #[.int .u64 (s : Int), .int .u64 (d : Int)] 25)).alloc (.cells #[.int .u64 (s : Int), .int .u64 (d : Int)] 25)) from ((Ext.refl w1).alloc _).alloc _)
  generalize (w1.alloc (.cells #[.int .u64 (s : Int), .int .u64 (d : Int)] 25)).alloc (.cells #[.int .u64 (s : Int), .int .u64 (d : Int)] 25) = W at HF HG HXW ⊢
  go_loopg [9, 10, 30] np (fun gh v9 v10 v30 wx => ∃ (i N D : Nat) (B : Option Addr) (c : Nat), i + gh = np ∧ v30 = .int .i64 (i : Int) ∧ v10 = .int .i64 (N : Int) ∧ v9 = .slice B N c ∧ N ≤ 39 * i ∧ (d + N) % 18446744073709551616 = D ∧ Mine wx (w1.heap.size + 2) (.slice B N c) (coins7 s d N) ∧ Src wx w1.heap.size (s : Int) (d : Int) ∧ Src wx (w1.heap.size + 1) (s : Int) (D : Int) ∧ Ext w1 wx)
  case atStart => exact ⟨0, 0, d, none, 0, by omega, rfl, rfl, rfl, by omega, by omega, Mine.nil _ _, HF.out, HG.out, HXW.out⟩
  case round =>
    obtain ⟨i, N, D, B, c, hig, rfl, rfl, rfl, hNi, hD, hmi, hf, hg, hx⟩ := hrel
    have HM := Lib.hid hmi
    have HFS := Lib.hid hf
    have HGS := Lib.hid hg
    have HX := Lib.hid hx
    have HD := Lib.hid hD
    have hDM : D < 18446744073709551616 := by omega
    clear hmi hf hg hx hD HF HG HXW
    cases gk with
    | zero =>
      obtain rfl : i = np := by omega
      clear hig
      have HBB := Lib.hid (fun u => HB.out d N u hd (by omega))
      rw [HD.out] at HBB
      obtain ⟨⟨f0, f1⟩, _, _⟩ := HFS.out
      go_wp2_with fail
      refine (HBB.out wr).mono ?_
      rintro e w5 ⟨B5, c5, rfl, hc5, hr5, hx5⟩
      have hxa5 := hx5.alloc (.cells #[.int .u64 (s : Int), .int .u64 (D : Int)] 25)
      have HX5 := Lib.hid (HX.out.trans hxa5)
      obtain ⟨B', c', e', hc', hr'⟩ := HM.out.slice (HSM.out N)
      rw [HCL.out] at e' hc'
      injection e' with e1 e2 e3
      subst e1; subst e3
      have HSS := Lib.hid (HSA.out N B B5 c c5 _ (by omega) (hr'.ext hxa5) (hr5.ext ((Ext.refl w5).alloc (.cells #[.int .u64 (s : Int), .int .u64 (D : Int)] 25))))
      have HG5 := Lib.hid ((HGS.out.ext hxa5).1)
      have HT5 := Lib.hid (src_new w5 (s : Int) (D : Int))
      clear hx5 hr5 hr' hxa5 e2 f0 f1
      go_wp2_with fail
      refine HSS.out.mono ?_
      rintro e w6 ⟨rfl, q6, hw6⟩
      have hx6 : Ext (w5.alloc (.cells #[.int .u64 (s : Int), .int .u64 (D : Int)] 25)) w6 := hw6 ▸ (Ext.refl _).drewN q6
      obtain ⟨g0, g1⟩ := src_keep HG5.out hx6
      obtain ⟨t0, t1⟩ := src_keep HT5.out hx6
      have HX6 := Lib.hid (HX5.out.trans hx6)
      have tD : ((D : Int) == (D : Int)) = true := by simp
      have tN : ((N : Int) == (N : Int)) = true := by simp
      clear hw6 hx6
      go_wp2
      go_ret
      exact ⟨rfl, HX1.out.trans HX6.out⟩
    | succ gh =>
      have hi : i < np := by omega
      have hiI : (i : Int) < (np : Int) := by omega
      obtain ⟨b1, o1, e1, hc1⟩ := (HP.out.ext (HX1.out.trans HX.out)).2 i (by rw [HN.out]; exact hi)
      have hxb := HP.out.1 i
      subst e1
      obtain ⟨x, hxx⟩ : ∃ x, co p i = x := ⟨_, rfl⟩
      rw [hxx] at hc1 hxb
      obtain ⟨k, hk⟩ : ∃ k, x % 40 = k := ⟨_, rfl⟩
      have hk40 : k < 40 := by omega
      have er : Int.tmod (x : Int) 40 = (k : Int) := by rw [Int.tmod_eq_emod_of_nonneg (by omega)]; omega
      obtain ⟨r, hr⟩ : ∃ r, i % 3 = r := ⟨_, rfl⟩
      have er3 : Int.tmod (i : Int) 3 = (r : Int) := by rw [Int.tmod_eq_emod_of_nonneg (by omega)]; omega
      have hr3 : r < 3 := by omega
      obtain ⟨N', hN'⟩ : ∃ N', N + k = N' := ⟨_, rfl⟩
      have eN : IntKind.i64.wrap ((N : Int) + (k : Int)) = (N' : Int) := by rw [IntWalk.i64_in _ (by omega)]; omega
      have ek : IntKind.u64.wrap (k : Int) = (k : Int) := IntWalk.u64_in _ (by omega)
      obtain ⟨D', hD'⟩ : ∃ D', (D + k) % 18446744073709551616 = D' := ⟨_, rfl⟩
      have HD' := Lib.hid (show (d + N') % 18446744073709551616 = D' from by have := HD.out; omega)
      have HBK := Lib.hid (fun u => HB.out D k u hDM (by omega))
      have HSKK := Lib.hid (fun u => HSK.out D k u hDM (by omega))
      rw [hD'] at HBK HSKK
      have HAPP := Lib.hid (show coins7 s d N ++ coins7 s D k = coins7 s d N' from by rw [← HD.out, HAP.out, hN'])
      have HLN := Lib.hid (HCL.out d N)
      have HLK := Lib.hid (HCL.out D k)
      have HLN' := Lib.hid (HCL.out d N')
      obtain ⟨⟨g0, g1⟩, g2, g3⟩ := HGS.out
      clear hxx hk hr hD'
      by_cases h2 : r = 2
      · subst h2
        go_wp2_with fail
        refine (HBK.out wr).mono ?_
        rintro e w5 ⟨B5, c5, rfl, hc5, hr5, hx5⟩
        have HR5 := Lib.hid hr5
        have HX5 := Lib.hid hx5
        obtain ⟨⟨j0, j1⟩, j2, j3⟩ := HGS.out.ext hx5
        clear hr5 hx5 g0 g1 g2 g3
        go_wp2_with fail
        refine (HSKK.out w5).mono ?_
        rintro e w6 ⟨rfl, hx6⟩
        have HX6 := Lib.hid (HX5.out.trans hx6)
        have HR6 := Lib.hid (HR5.out.ext hx6)
        have HG6 := Lib.hid (HGS.out.ext (HX5.out.trans hx6))
        clear hx6 j0 j1 j2 j3
        obtain ⟨⟨g0, g1⟩, g2, g3⟩ := HG6.out
        have hg1' : (w6.setCell ⟨w1.heap.size + 1, 0, none⟩ (.int .u64 (s : Int))).cell? ⟨w1.heap.size + 1, 1, none⟩ = some (.int .u64 (D : Int)) := (World.cell?_setCell_other _ _ _ _ (off_ne _ (by omega))).trans g1
        have hg3' : (w6.setCell ⟨w1.heap.size + 1, 0, none⟩ (.int .u64 (s : Int))).frozen? ⟨w1.heap.size + 1, 1, none⟩ = false := by rw [World.frozen?_setCell]; exact g3
        have HGW := Lib.hid (show Src ((w6.setCell ⟨w1.heap.size + 1, 0, none⟩ (.int .u64 (s : Int))).setCell ⟨w1.heap.size + 1, 1, none⟩ (.int .u64 (D' : Int))) (w1.heap.size + 1) (s : Int) (D' : Int) from HG6.out.store (s : Int) (D' : Int))
        have HFW := Lib.hid (show Src ((w6.setCell ⟨w1.heap.size + 1, 0, none⟩ (.int .u64 (s : Int))).setCell ⟨w1.heap.size + 1, 1, none⟩ (.int .u64 (D' : Int))) w1.heap.size (s : Int) (d : Int) from ((HFS.out.ext HX6.out).other (by omega) 0 _).other (by omega) 1 _)
        have HRW := Lib.hid (show Rd ((w6.setCell ⟨w1.heap.size + 1, 0, none⟩ (.int .u64 (s : Int))).setCell ⟨w1.heap.size + 1, 1, none⟩ (.int .u64 (D' : Int))) B5 (coins7 s D k) from HR6.out.src HG6.out (s : Int) (D' : Int))
        have hown : ∀ j, (Value.slice B N c).ownBlock = some j → some j ≠ some (w1.heap.size + 1) := fun j hj e => by
          have := (HM.out.block j hj).1
          injection e with e
          omega
        have HMW := Lib.hid (show Mine ((w6.setCell ⟨w1.heap.size + 1, 0, none⟩ (.int .u64 (s : Int))).setCell ⟨w1.heap.size + 1, 1, none⟩ (.int .u64 (D' : Int))) (w1.heap.size + 2) (.slice B N c) (coins7 s d N) from mine_keep (mine_keep (mine_ext HM.out HX6.out) (grown_set' w6 (w1.heap.size + 1) 0 _) hown) (grown_set' _ (w1.heap.size + 1) 1 _) hown)
        have HXW := Lib.hid (show Ext w1 ((w6.setCell ⟨w1.heap.size + 1, 0, none⟩ (.int .u64 (s : Int))).setCell ⟨w1.heap.size + 1, 1, none⟩ (.int .u64 (D' : Int))) from ((HX.out.trans HX6.out).setCell (p := ⟨w1.heap.size + 1, 0, none⟩) (by simp) _).setCell (p := ⟨w1.heap.size + 1, 1, none⟩) (by simp) _)
        have hszW : w1.heap.size + 2 ≤ ((w6.setCell ⟨w1.heap.size + 1, 0, none⟩ (.int .u64 (s : Int))).setCell ⟨w1.heap.size + 1, 1, none⟩ (.int .u64 (D' : Int))).heap.size := by have h : w1.heap.size + 1 < w6.heap.size := block_lt_of_cell HG6.out.1.1; simp [World.setCell]; omega
        have HOWN := Lib.hid hown
        clear hown
        go_wp2_with (at_builtin; refine wpList_append_rd rfl (.tmp 58) (.tmp 59) rfl (w1.heap.size + 2) _ (coins7 s d N) (coins7 s D k) rfl HMW.out B5 k c5 rfl HLK.out HRW.out (by rw [HLN.out, HLK.out]; omega) hszW ?_; intro v' w9 hown' hg' hat'; rw [HAPP.out] at hown'; have hx9 := HXW.out.more hg' (fun r e => by have := (HMW.out.block r e).1; omega); have hG9 := HGW.out.keep hg' (fun e => HOWN.out (w1.heap.size + 1) e.symm rfl); have hF9 := HFW.out.keep hg' (fun e => by have := (HMW.out.block _ e.symm).1; omega); obtain ⟨B9, c9, e9, hc9, _⟩ := hown'.slice (HSM.out _); rw [HLN'.out] at e9 hc9; subst e9; have HO9 := Lib.hid hown'; have HG9 := Lib.hid hG9; have HF9 := Lib.hid hF9; have HX9 := Lib.hid hx9; clear hown' hg' hat' hx9 hG9 hF9)
        go_roundg gh
        case measure => omega
        case rel => exact ⟨i + 1, N', D', B9, c9, by omega, by go_num, rfl, rfl, by omega, HD'.out, HO9.out, HF9.out, HG9.out, HX9.out⟩
      · have t2 : ((r : Int) == 2) = false := beq_eq_false_iff_ne.2 (by omega)
        clear h2
        go_wp2_with fail
        refine (HBK.out wr).mono ?_
        rintro e w6 ⟨B5, c5, rfl, hc5, hr5, hx5⟩
        have HX6 := Lib.hid hx5
        have HR6 := Lib.hid hr5
        have HG6 := Lib.hid (HGS.out.ext hx5)
        clear hr5 hx5 g0 g1 g2 g3
        obtain ⟨⟨g0, g1⟩, g2, g3⟩ := HG6.out
        have hg1' : (w6.setCell ⟨w1.heap.size + 1, 0, none⟩ (.int .u64 (s : Int))).cell? ⟨w1.heap.size + 1, 1, none⟩ = some (.int .u64 (D : Int)) := (World.cell?_setCell_other _ _ _ _ (off_ne _ (by omega))).trans g1
        have hg3' : (w6.setCell ⟨w1.heap.size + 1, 0, none⟩ (.int .u64 (s : Int))).frozen? ⟨w1.heap.size + 1, 1, none⟩ = false := by rw [World.frozen?_setCell]; exact g3
        have HGW := Lib.hid (show Src ((w6.setCell ⟨w1.heap.size + 1, 0, none⟩ (.int .u64 (s : Int))).setCell ⟨w1.heap.size + 1, 1, none⟩ (.int .u64 (D' : Int))) (w1.heap.size + 1) (s : Int) (D' : Int) from HG6.out.store (s : Int) (D' : Int))
        have HFW := Lib.hid (show Src ((w6.setCell ⟨w1.heap.size + 1, 0, none⟩ (.int .u64 (s : Int))).setCell ⟨w1.heap.size + 1, 1, none⟩ (.int .u64 (D' : Int))) w1.heap.size (s : Int) (d : Int) from ((HFS.out.ext HX6.out).other (by omega) 0 _).other (by omega) 1 _)
        have HRW := Lib.hid (show Rd ((w6.setCell ⟨w1.heap.size + 1, 0, none⟩ (.int .u64 (s : Int))).setCell ⟨w1.heap.size + 1, 1, none⟩ (.int .u64 (D' : Int))) B5 (coins7 s D k) from HR6.out.src HG6.out (s : Int) (D' : Int))
        have hown : ∀ j, (Value.slice B N c).ownBlock = some j → some j ≠ some (w1.heap.size + 1) := fun j hj e => by
          have := (HM.out.block j hj).1
          injection e with e
          omega
        have HMW := Lib.hid (show Mine ((w6.setCell ⟨w1.heap.size + 1, 0, none⟩ (.int .u64 (s : Int))).setCell ⟨w1.heap.size + 1, 1, none⟩ (.int .u64 (D' : Int))) (w1.heap.size + 2) (.slice B N c) (coins7 s d N) from mine_keep (mine_keep (mine_ext HM.out HX6.out) (grown_set' w6 (w1.heap.size + 1) 0 _) hown) (grown_set' _ (w1.heap.size + 1) 1 _) hown)
        have HXW := Lib.hid (show Ext w1 ((w6.setCell ⟨w1.heap.size + 1, 0, none⟩ (.int .u64 (s : Int))).setCell ⟨w1.heap.size + 1, 1, none⟩ (.int .u64 (D' : Int))) from ((HX.out.trans HX6.out).setCell (p := ⟨w1.heap.size + 1, 0, none⟩) (by simp) _).setCell (p := ⟨w1.heap.size + 1, 1, none⟩) (by simp) _)
        have hszW : w1.heap.size + 2 ≤ ((w6.setCell ⟨w1.heap.size + 1, 0, none⟩ (.int .u64 (s : Int))).setCell ⟨w1.heap.size + 1, 1, none⟩ (.int .u64 (D' : Int))).heap.size := by have h : w1.heap.size + 1 < w6.heap.size := block_lt_of_cell HG6.out.1.1; simp [World.setCell]; omega
        have HOWN := Lib.hid hown
        clear hown
        go_wp2_with (at_builtin; refine wpList_append_rd rfl (.tmp 58) (.tmp 59) rfl (w1.heap.size + 2) _ (coins7 s d N) (coins7 s D k) rfl HMW.out B5 k c5 rfl HLK.out HRW.out (by rw [HLN.out, HLK.out]; omega) hszW ?_; intro v' w9 hown' hg' hat'; rw [HAPP.out] at hown'; have hx9 := HXW.out.more hg' (fun r e => by have := (HMW.out.block r e).1; omega); have hG9 := HGW.out.keep hg' (fun e => HOWN.out (w1.heap.size + 1) e.symm rfl); have hF9 := HFW.out.keep hg' (fun e => by have := (HMW.out.block _ e.symm).1; omega); obtain ⟨B9, c9, e9, hc9, _⟩ := hown'.slice (HSM.out _); rw [HLN'.out] at e9 hc9; subst e9; have HO9 := Lib.hid hown'; have HG9 := Lib.hid hG9; have HF9 := Lib.hid hF9; have HX9 := Lib.hid hx9; clear hown' hg' hat' hx9 hG9 hF9)
        go_roundg gh
        case measure => omega
        case rel => exact ⟨i + 1, N', D', B9, c9, by omega, by go_num, rfl, rfl, by omega, HD'.out, HO9.out, HF9.out, HG9.out, HX9.out⟩
end Go.Proofs.Ytjedogkfllddaaa

/-
  The law PadMany, walked, under what layer 7's functions are to do. Conditions: none.
-/
namespace Go.Proofs.Ytjedogkfllddaaa
open Go.RowKit
open Pol (co Sm)

set_option maxHeartbeats 1600000 in
set_option maxRecDepth 100000 in
theorem many7_walk (C : PadSaid) (s : Nat) (m : Int) (w : World) (hs : s < 18446744073709551616) (hm1 : -9223372036854775808 ≤ m) (hm2 : m ≤ 9223372036854775807) :
    Calls Try.prog 6 #[.int .u64 (s : Int), .int .i64 m] w (Holds w) := by
  have HAW := Lib.hid (fun u => awake7 C u)
  obtain ⟨n, hn⟩ : ∃ n, many7 m = n := ⟨_, rfl⟩
  have hn' : (n : Int) = max 0 (min m 65536) := by rw [← hn]; unfold many7; omega
  have hn6 : n ≤ 65536 := by omega
  have HB := Lib.hid (fun u => show Calls Try.prog 10 #[.agg #[.int .u64 (s : Int), .int .u64 0], .int .i64 m] u (fun e w' => ∃ (B : Option Addr) (c : Nat), e = .returned (.tuple #[.slice B n c, .agg #[.int .u64 (s : Int), .int .u64 (n : Int)]]) ∧ Ext u w') from by
    have h := C.bytes s 0 m u hs (by omega) hm1 hm2
    rw [hn] at h
    refine h.mono ?_
    rintro e w' ⟨B, c, rfl, _, _, hx⟩
    exact ⟨B, c, by rw [Nat.zero_add, Nat.mod_eq_of_lt (by omega)], hx⟩)
  have HB0 := Lib.hid (fun u => show Calls Try.prog 10 #[.agg #[.int .u64 (s : Int), .int .u64 0], .int .i64 (-1)] u (fun e w' => ∃ (B : Option Addr) (c : Nat), e = .returned (.tuple #[.slice B 0 c, .agg #[.int .u64 (s : Int), .int .u64 0]]) ∧ Ext u w') from by
    have h := C.bytes s 0 (-1) u hs (by omega) (by omega) (by omega)
    refine h.mono ?_
    rintro e w' ⟨B, c, rfl, _, _, hx⟩
    exact ⟨B, c, rfl, hx⟩)
  have hnI : (n : Int) ≤ 65536 := by omega
  have ew : IntKind.u64.wrap (n : Int) = (n : Int) := IntWalk.u64_in _ (by omega)
  have tn : ((n : Int) == (n : Int)) = true := by simp
  clear C hn
  go_enter Try.func6, Try.ntmps6
  go_wp2_with fail
  refine (HAW.out w).mono ?_
  rintro e w1 ⟨rfl, hx1⟩
  have HX1 := Lib.hid hx1
  clear hx1
  go_wp2_with fail
  · obtain rfl : n = 65536 := by omega
    clear hn'
    refine (HB.out _).mono ?_
    rintro e w2 ⟨B2, c2, rfl, hx2⟩
    have HX2 := Lib.hid (((Ext.refl w1).alloc _).trans hx2)
    have z0 : w2.cell? ⟨w1.heap.size, 0, none⟩ = some (.int .u64 (s : Int)) := (hx2.below.cell (p := ⟨w1.heap.size, 0, none⟩) (by simp)).trans (by rw [cell_of_row _ _ _ _ _ _ (heap_alloc_new w1 _)]; rfl)
    have z1 : w2.cell? ⟨w1.heap.size, 1, none⟩ = some (.int .u64 0) := (hx2.below.cell (p := ⟨w1.heap.size, 1, none⟩) (by simp)).trans (by rw [cell_of_row _ _ _ _ _ _ (heap_alloc_new w1 _)]; rfl)
    have y0 : (w2.alloc (.cells #[.int .u64 (s : Int), .int .u64 65536] 25)).cell? ⟨w1.heap.size, 0, none⟩ = some (.int .u64 (s : Int)) := (((Ext.refl w2).alloc _).below.cell (p := ⟨w1.heap.size, 0, none⟩) (block_lt_of_cell z0)).trans z0
    have y1 : (w2.alloc (.cells #[.int .u64 (s : Int), .int .u64 65536] 25)).cell? ⟨w1.heap.size, 1, none⟩ = some (.int .u64 0) := (((Ext.refl w2).alloc _).below.cell (p := ⟨w1.heap.size, 1, none⟩) (block_lt_of_cell z1)).trans z1
    have HZ := Lib.hid (And.intro y0 y1)
    clear hx2 z0 z1
    go_wp2_with fail
    refine (HB0.out _).mono ?_
    rintro e w3 ⟨B3, c3, rfl, hx3⟩
    have HX3 := Lib.hid (HX2.out.trans (((Ext.refl w2).alloc _).trans hx3))
    have x0 : w3.cell? ⟨w1.heap.size, 0, none⟩ = some (.int .u64 (s : Int)) := (hx3.below.cell (p := ⟨w1.heap.size, 0, none⟩) (block_lt_of_cell HZ.out.1)).trans HZ.out.1
    have x1 : w3.cell? ⟨w1.heap.size, 1, none⟩ = some (.int .u64 0) := (hx3.below.cell (p := ⟨w1.heap.size, 1, none⟩) (block_lt_of_cell HZ.out.2)).trans HZ.out.2
    have u1 : w3.cell? ⟨w2.heap.size, 1, none⟩ = some (.int .u64 65536) := (hx3.below.cell (p := ⟨w2.heap.size, 1, none⟩) (by simp)).trans (by rw [cell_of_row _ _ _ _ _ _ (heap_alloc_new w2 _)]; rfl)
    have v0 : (w3.alloc (.cells #[.int .u64 (s : Int), .int .u64 0] 25)).cell? ⟨w1.heap.size, 0, none⟩ = some (.int .u64 (s : Int)) := (((Ext.refl w3).alloc _).below.cell (p := ⟨w1.heap.size, 0, none⟩) (block_lt_of_cell x0)).trans x0
    have v1 : (w3.alloc (.cells #[.int .u64 (s : Int), .int .u64 0] 25)).cell? ⟨w1.heap.size, 1, none⟩ = some (.int .u64 0) := (((Ext.refl w3).alloc _).below.cell (p := ⟨w1.heap.size, 1, none⟩) (block_lt_of_cell x1)).trans x1
    have v2 : (w3.alloc (.cells #[.int .u64 (s : Int), .int .u64 0] 25)).cell? ⟨w2.heap.size, 1, none⟩ = some (.int .u64 65536) := (((Ext.refl w3).alloc _).below.cell (p := ⟨w2.heap.size, 1, none⟩) (block_lt_of_cell u1)).trans u1
    clear hx3 x0 x1 u1
    go_wp2
    go_ret
    exact ⟨rfl, HX1.out.trans (HX3.out.alloc _)⟩
  · obtain rfl : m = (n : Int) := by omega
    clear hn'
    refine (HB.out _).mono ?_
    rintro e w2 ⟨B2, c2, rfl, hx2⟩
    have HX2 := Lib.hid (((Ext.refl w1).alloc _).trans hx2)
    have z0 : w2.cell? ⟨w1.heap.size, 0, none⟩ = some (.int .u64 (s : Int)) := (hx2.below.cell (p := ⟨w1.heap.size, 0, none⟩) (by simp)).trans (by rw [cell_of_row _ _ _ _ _ _ (heap_alloc_new w1 _)]; rfl)
    have z1 : w2.cell? ⟨w1.heap.size, 1, none⟩ = some (.int .u64 0) := (hx2.below.cell (p := ⟨w1.heap.size, 1, none⟩) (by simp)).trans (by rw [cell_of_row _ _ _ _ _ _ (heap_alloc_new w1 _)]; rfl)
    have y0 : (w2.alloc (.cells #[.int .u64 (s : Int), .int .u64 (n : Int)] 25)).cell? ⟨w1.heap.size, 0, none⟩ = some (.int .u64 (s : Int)) := (((Ext.refl w2).alloc _).below.cell (p := ⟨w1.heap.size, 0, none⟩) (block_lt_of_cell z0)).trans z0
    have y1 : (w2.alloc (.cells #[.int .u64 (s : Int), .int .u64 (n : Int)] 25)).cell? ⟨w1.heap.size, 1, none⟩ = some (.int .u64 0) := (((Ext.refl w2).alloc _).below.cell (p := ⟨w1.heap.size, 1, none⟩) (block_lt_of_cell z1)).trans z1
    have HZ := Lib.hid (And.intro y0 y1)
    clear hx2 z0 z1
    go_wp2_with fail
    refine (HB0.out _).mono ?_
    rintro e w3 ⟨B3, c3, rfl, hx3⟩
    have HX3 := Lib.hid (HX2.out.trans (((Ext.refl w2).alloc _).trans hx3))
    have x0 : w3.cell? ⟨w1.heap.size, 0, none⟩ = some (.int .u64 (s : Int)) := (hx3.below.cell (p := ⟨w1.heap.size, 0, none⟩) (block_lt_of_cell HZ.out.1)).trans HZ.out.1
    have x1 : w3.cell? ⟨w1.heap.size, 1, none⟩ = some (.int .u64 0) := (hx3.below.cell (p := ⟨w1.heap.size, 1, none⟩) (block_lt_of_cell HZ.out.2)).trans HZ.out.2
    have u1 : w3.cell? ⟨w2.heap.size, 1, none⟩ = some (.int .u64 (n : Int)) := (hx3.below.cell (p := ⟨w2.heap.size, 1, none⟩) (by simp)).trans (by rw [cell_of_row _ _ _ _ _ _ (heap_alloc_new w2 _)]; rfl)
    have v0 : (w3.alloc (.cells #[.int .u64 (s : Int), .int .u64 0] 25)).cell? ⟨w1.heap.size, 0, none⟩ = some (.int .u64 (s : Int)) := (((Ext.refl w3).alloc _).below.cell (p := ⟨w1.heap.size, 0, none⟩) (block_lt_of_cell x0)).trans x0
    have v1 : (w3.alloc (.cells #[.int .u64 (s : Int), .int .u64 0] 25)).cell? ⟨w1.heap.size, 1, none⟩ = some (.int .u64 0) := (((Ext.refl w3).alloc _).below.cell (p := ⟨w1.heap.size, 1, none⟩) (block_lt_of_cell x1)).trans x1
    have v2 : (w3.alloc (.cells #[.int .u64 (s : Int), .int .u64 0] 25)).cell? ⟨w2.heap.size, 1, none⟩ = some (.int .u64 (n : Int)) := (((Ext.refl w3).alloc _).below.cell (p := ⟨w2.heap.size, 1, none⟩) (block_lt_of_cell u1)).trans u1
    clear hx3 x0 x1 u1
    go_wp2
    go_ret
    exact ⟨rfl, HX1.out.trans (HX3.out.alloc _)⟩
  · obtain rfl : n = 0 := by omega
    clear hn'
    refine (HB.out _).mono ?_
    rintro e w2 ⟨B2, c2, rfl, hx2⟩
    have HX2 := Lib.hid (((Ext.refl w1).alloc _).trans hx2)
    have z0 : w2.cell? ⟨w1.heap.size, 0, none⟩ = some (.int .u64 (s : Int)) := (hx2.below.cell (p := ⟨w1.heap.size, 0, none⟩) (by simp)).trans (by rw [cell_of_row _ _ _ _ _ _ (heap_alloc_new w1 _)]; rfl)
    have z1 : w2.cell? ⟨w1.heap.size, 1, none⟩ = some (.int .u64 0) := (hx2.below.cell (p := ⟨w1.heap.size, 1, none⟩) (by simp)).trans (by rw [cell_of_row _ _ _ _ _ _ (heap_alloc_new w1 _)]; rfl)
    have y0 : (w2.alloc (.cells #[.int .u64 (s : Int), .int .u64 0] 25)).cell? ⟨w1.heap.size, 0, none⟩ = some (.int .u64 (s : Int)) := (((Ext.refl w2).alloc _).below.cell (p := ⟨w1.heap.size, 0, none⟩) (block_lt_of_cell z0)).trans z0
    have y1 : (w2.alloc (.cells #[.int .u64 (s : Int), .int .u64 0] 25)).cell? ⟨w1.heap.size, 1, none⟩ = some (.int .u64 0) := (((Ext.refl w2).alloc _).below.cell (p := ⟨w1.heap.size, 1, none⟩) (block_lt_of_cell z1)).trans z1
    have HZ := Lib.hid (And.intro y0 y1)
    clear hx2 z0 z1
    go_wp2_with fail
    refine (HB0.out _).mono ?_
    rintro e w3 ⟨B3, c3, rfl, hx3⟩
    have HX3 := Lib.hid (HX2.out.trans (((Ext.refl w2).alloc _).trans hx3))
    have x0 : w3.cell? ⟨w1.heap.size, 0, none⟩ = some (.int .u64 (s : Int)) := (hx3.below.cell (p := ⟨w1.heap.size, 0, none⟩) (block_lt_of_cell HZ.out.1)).trans HZ.out.1
    have x1 : w3.cell? ⟨w1.heap.size, 1, none⟩ = some (.int .u64 0) := (hx3.below.cell (p := ⟨w1.heap.size, 1, none⟩) (block_lt_of_cell HZ.out.2)).trans HZ.out.2
    have u1 : w3.cell? ⟨w2.heap.size, 1, none⟩ = some (.int .u64 0) := (hx3.below.cell (p := ⟨w2.heap.size, 1, none⟩) (by simp)).trans (by rw [cell_of_row _ _ _ _ _ _ (heap_alloc_new w2 _)]; rfl)
    have v0 : (w3.alloc (.cells #[.int .u64 (s : Int), .int .u64 0] 25)).cell? ⟨w1.heap.size, 0, none⟩ = some (.int .u64 (s : Int)) := (((Ext.refl w3).alloc _).below.cell (p := ⟨w1.heap.size, 0, none⟩) (block_lt_of_cell x0)).trans x0
    have v1 : (w3.alloc (.cells #[.int .u64 (s : Int), .int .u64 0] 25)).cell? ⟨w1.heap.size, 1, none⟩ = some (.int .u64 0) := (((Ext.refl w3).alloc _).below.cell (p := ⟨w1.heap.size, 1, none⟩) (block_lt_of_cell x1)).trans x1
    have v2 : (w3.alloc (.cells #[.int .u64 (s : Int), .int .u64 0] 25)).cell? ⟨w2.heap.size, 1, none⟩ = some (.int .u64 0) := (((Ext.refl w3).alloc _).below.cell (p := ⟨w2.heap.size, 1, none⟩) (block_lt_of_cell u1)).trans u1
    clear hx3 x0 x1 u1
    go_wp2
    go_ret
    exact ⟨rfl, HX1.out.trans (HX3.out.alloc _)⟩
end Go.Proofs.Ytjedogkfllddaaa

/-
  A region that draws its order, by an invariant: what holds of the listed operations, whichever they are, is kept by each operation that may come up next. Conditions: each operation waits for operations ahead of it in the text alone; of no program in particular.
-/
namespace Go.Proofs.Ytjedogkfllddaaa
open Go

section
variable {P : Program} {ops : Array Oper} {Q : Exit → Act → World → Prop}

theorem Oper.wp_then {o : Oper} {a : Act} {w : World} {K K' : Act → World → Prop} (h : ∀ a w, K' a w → K a w) (hh : o.wp P a w K' (Exit.then K Q)) : o.wp P a w K Q := by
  unfold Oper.wp at *
  generalize (execOp a.eval o).run P w = r at *
  cases r with
  | ok n w' =>
    cases n <;> simp only [Oper.upon] at hh ⊢ <;>
      first
        | exact h _ _ hh
        | exact Calls.mono hh (fun e w'' he => by cases e <;> first | exact h _ _ he | exact he)
        | exact Rows.mono hh (fun _ _ he => h _ _ he)
  | halt x w' => cases x <;> simp only [Oper.upon] at hh ⊢ <;> exact hh
theorem wpOp_of_one {i : Nat} {o : Oper} {a : Act} {w : World} {K : Act → World → Prop} (hi : ops[i]? = some o) (h : wpList P ops (Exit.then K Q) [o] a w) : wpOp P ops Q i K a w := by
  unfold wpOp
  rw [hi]
  simp only
  unfold wpList at h
  split
  · rename_i hw
    rw [if_pos hw] at h
    rcases h with h | h
    · exact .inl (Oper.wp_then (fun a w h => by unfold wpList at h; exact h) h)
    · exact .inr h
  · rename_i hw
    rw [if_neg hw] at h
    unfold wpList at h
    exact h
def depsB (l : List Oper) : Bool := (List.range l.length).all fun i => match l[i]? with | some o => o.after.all (fun e => decide (e.on < i)) | none => true
theorem depsB_spec {l : List Oper} (h : depsB l = true) {i : Nat} {o : Oper} (hi : l[i]? = some o) : ∀ e ∈ o.after, e.on < i := by
  have hlt : i < l.length := (List.getElem?_eq_some_iff.1 hi).1
  have h1 := List.all_eq_true.1 h i (List.mem_range.2 hlt)
  rw [hi] at h1
  intro e he
  have h2 := (Array.all_eq_true_iff_forall_mem.1 h1) e he
  simpa using h2
theorem getD_true_of {L : Array Bool} {k : Nat} (h : L.getD k false = true) : L.getD k true = true := by
  rw [Array.getD_eq_getD_getElem?] at h ⊢
  cases hk : L[k]? with
  | none => rfl
  | some b => rw [hk] at h; exact h
theorem getD_false_of {L : Array Bool} {k : Nat} (hk : k < L.size) (h : L.getD k true = true) : L.getD k false = true := by
  rw [Array.getD_eq_getD_getElem?] at h ⊢
  rw [Array.getElem?_eq_getElem hk] at h ⊢
  exact h
theorem getD_listed (L : Array Bool) (i j : Nat) : (L.setIfInBounds i true).getD j true = (j == i || L.getD j true) := by
  by_cases e : j = i
  · subst e
    rw [Array.getD_eq_getD_getElem?, Array.getElem?_setIfInBounds_self]
    split <;> simp
  · rw [getD_set_ne true (fun h => e h.symm), show (j == i) = false from beq_eq_false_iff_ne.2 e, Bool.false_or]

theorem wpAny_inv {l : List Oper} (I : (Nat → Bool) → Act → World → Prop) (hB : depsB l = true)
    (hs : ∀ i o, l[i]? = some o → ∀ L a w, I L a w → L i = false → (∀ e ∈ o.after, Region.binds .any e = true → L e.on = true) → wpList P l.toArray (Exit.then (fun a' w' => I (fun j => j == i || L j) a' w') Q) [o] a w)
    (he : ∀ L a w, (∀ i, i < l.length → L i = true) → I L a w → Q .normal a w) :
    ∀ (f : Nat) (L : Array Bool) (a : Act) (w : World) (U : List Nat), L.size = l.length → U.length = f → (∀ i, L.getD i true = false → i ∈ U) → I (fun i => L.getD i true) a w → wpAny P .any l.toArray Q f L a w := by
  have hall : ∀ L : Array Bool, L.size = l.length → Region.ready .any l.toArray L = [] → ∀ i, i < l.length → L.getD i true = true := fun L hsz hr i => by
    induction i using Nat.strongRecOn with
    | _ i ih =>
      intro hi
      cases hb : L.getD i true with
      | true => rfl
      | false =>
        have hoi : l.toArray[i]? = some l[i] := by simp [hi]
        have hm : i ∈ Region.ready .any l.toArray L := mem_ready.2 ⟨hb, _, hoi, fun e hee _ => by
          have hlt := depsB_spec hB (i := i) (o := l[i]) (by simp [hi]) e hee
          exact getD_false_of (by omega) (ih e.on hlt (by omega))⟩
        rw [hr] at hm
        cases hm
  intro f
  induction f with
  | zero =>
    intro L a w U hsz hU hin hI
    have hU0 : U = [] := List.eq_nil_of_length_eq_zero hU
    subst hU0
    have hL : ∀ i, L.getD i true = true := fun i => by
      cases hb : L.getD i true with
      | true => rfl
      | false => exact absurd (hin i hb) (by simp)
    refine ⟨?_, he _ a w (fun i _ => hL i) hI⟩
    rcases hr : Region.ready .any l.toArray L with _ | ⟨i, r⟩
    · rfl
    · have hm : i ∈ Region.ready .any l.toArray L := by rw [hr]; simp
      have := (mem_ready.1 hm).1
      rw [hL i] at this
      cases this
  | succ f ih =>
    intro L a w U hsz hU hin hI
    refine ⟨fun hr => he _ a w (hall L hsz hr) hI, fun i hi => ?_⟩
    obtain ⟨hun, o, ho, haft⟩ := mem_ready.1 hi
    have ho' : l[i]? = some o := by simpa using ho
    have h1 := hs i o ho' _ a w hI hun (fun e hee hb => getD_true_of (haft e hee hb))
    have hU' : (U.erase i).length = f := by rw [List.length_erase_of_mem (hin i hun)]; omega
    refine wpOp_mono (fun a' w' hI' => ?_) (wpOp_of_one ho h1)
    refine ih _ a' w' (U.erase i) (by simpa using hsz) hU' (fun j hj => ?_) ?_
    · rw [getD_listed, Bool.or_eq_false_iff] at hj
      exact (List.mem_erase_of_ne (by simpa using hj.1)).2 (hin j hj.2)
    · simp only [getD_listed]
      exact hI'
theorem wp_region_inv {id : Nat} {a : Act} {w : World} {l : List Oper} (I : (Nat → Bool) → Act → World → Prop) (hm : P.follows .mixedOrders = true) (hB : depsB l = true) (h0 : I (fun i => !decide (i < l.length)) a w.drew)
    (hs : ∀ i o, l[i]? = some o → ∀ L a w, I L a w → L i = false → (∀ e ∈ o.after, Region.binds .any e = true → L e.on = true) → wpList P l.toArray (Exit.then (fun a' w' => I (fun j => j == i || L j) a' w') Q) [o] a w)
    (he : ∀ L a w, (∀ i, i < l.length → L i = true) → I L a w → wpList P l.toArray Q [] a w) : (Code.region id l.toArray true).wp P Q a w := by
  have e0 : (fun i => (Array.replicate l.toArray.size false).getD i true) = fun i => !decide (i < l.length) := by
    funext i
    rw [Array.getD_eq_getD_getElem?, Array.getElem?_replicate]
    by_cases h : i < l.length <;> simp [h]
  refine wp_region_any hm ?_
  refine wpAny_inv I hB hs he l.toArray.size _ a _ (List.range l.length) (by simp) (by simp) (fun i hi => ?_) (by rw [e0]; exact h0)
  have h1 := congrFun e0 i
  rw [hi] at h1
  exact List.mem_range.2 (by simpa using h1.symm)
end
end Go.Proofs.Ytjedogkfllddaaa
