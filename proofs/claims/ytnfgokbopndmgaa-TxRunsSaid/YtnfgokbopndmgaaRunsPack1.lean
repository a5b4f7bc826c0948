/-
  Part 1 of the texts that the seat's proofs stand on; each part of it begins with its own sentence and conditions. Conditions: those that each theorem names.
-/
import Derived.WalkKit
import Derived.Lib.Hide
import Derived.Deep.QuietTactic
import Derived.BigQuiet
import Derived.Deep.WholeRow
import Derived.Deep.MidRow
import Derived.Deep.LoopGhost
import Derived.Laws.BitsAllLaws
import Derived.OpenShut
import Derived.Test.YtnfgokbopndmgaaProg
import Derived.Maps.AppendAt
import Derived.ArgAppend
import Derived.Orders
import Derived.StillTail
import Derived.Deep.Quiet
import Derived.KernelRfl

/-
  The plain mathematics of the field with 256 elements, on natural numbers: the powers of 3, their exponents, products, quotients and powers, and the laws that they keep. Conditions: none; nothing of the program is named here.
-/
namespace Gf

/-- Times 2, modulo x^8 + x^4 + x^3 + x + 1. -/
def dbl (a : Nat) : Nat := ((2 * a) % 256) ^^^ (if a < 128 then 0 else 27)
/-- Times 3. -/
def tri (a : Nat) : Nat := dbl a ^^^ a
/-- The powers of 3. -/
def pw : Nat → Nat
  | 0 => 1
  | n + 1 => tri (pw n)
/-- The table of exponents behind k rounds. -/
def lt : Nat → Nat → Nat
  | 0, _ => 0
  | k + 1, x => if x = pw k then k else lt k x
def lg (x : Nat) : Nat := lt 255 x
def mul (a b : Nat) : Nat := if a = 0 ∨ b = 0 then 0 else pw ((lg a + lg b) % 255)
def quo (a b : Nat) : Nat := if a = 0 then 0 else pw ((lg a + 255 - lg b) % 255)
def pow (a n : Nat) : Nat := if n = 0 then 1 else if a = 0 then 0 else pw ((lg a * (n % 255)) % 255)

def run : Nat → Nat → List Nat
  | 0, _ => []
  | n + 1, x => x :: run n (tri x)

theorem run_at : ∀ (n i s : Nat), i < n → (run n (pw s))[i]? = some (pw (s + i))
  | 0, _, _, h => by omega
  | n + 1, 0, s, _ => by simp [run]
  | n + 1, i + 1, s, h => by
    have := run_at n i (s + 1) (by omega)
    simp only [run, List.getElem?_cons_succ]
    rw [show tri (pw s) = pw (s + 1) from rfl, this]
    congr 2; omega

theorem run_len : ∀ (n x : Nat), (run n x).length = n
  | 0, _ => rfl
  | n + 1, x => by simp [run, run_len n]

theorem tab_nodup : (run 255 1).Nodup := by decide +kernel
theorem tab_all : ∀ a, a < 256 → a ≠ 0 → a ∈ run 255 1 := by decide +kernel
theorem tab_small : ∀ a ∈ run 255 1, a ≠ 0 ∧ a < 256 := by decide +kernel
theorem tri_add : ∀ a, a < 256 → ∀ b, b < 256 → tri (a ^^^ b) = tri a ^^^ tri b := by decide +kernel
theorem tri_lt : ∀ a, a < 256 → tri a < 256 := by decide +kernel
theorem dbl_lt : ∀ a, a < 256 → dbl a < 256 := by decide +kernel
theorem pw_255 : pw 255 = 1 := by decide +kernel

theorem tab_at (i : Nat) (h : i < 255) : (run 255 1)[i]? = some (pw i) := by
  have := run_at 255 i 0 h
  simpa [pw] using this

theorem pw_inj (i j : Nat) (hi : i < 255) (hj : j < 255) (h : pw i = pw j) : i = j := by
  have a := tab_at i hi
  have b := tab_at j hj
  rw [← h] at b
  have hl := run_len 255 1
  obtain ⟨_, ea⟩ := List.getElem?_eq_some_iff.1 a
  obtain ⟨_, eb⟩ := List.getElem?_eq_some_iff.1 b
  have hp := List.pairwise_iff_getElem.1 tab_nodup
  rcases Nat.lt_trichotomy i j with hlt | he | hlt
  · exact absurd (ea.trans eb.symm) (hp i j _ _ hlt)
  · exact he
  · exact absurd (eb.trans ea.symm) (hp j i _ _ hlt)

theorem pw_add255 : ∀ n, pw (n + 255) = pw n
  | 0 => by rw [Nat.zero_add]; exact pw_255
  | n + 1 => by
    rw [show n + 1 + 255 = (n + 255) + 1 from by omega]
    show tri (pw (n + 255)) = tri (pw n)
    rw [pw_add255 n]

theorem pw_mul255 (n : Nat) : ∀ k, pw (n + 255 * k) = pw n
  | 0 => rfl
  | k + 1 => by rw [show n + 255 * (k + 1) = (n + 255 * k) + 255 from by omega, pw_add255, pw_mul255 n k]

theorem pw_mod (n : Nat) : pw (n % 255) = pw n := by
  have := pw_mul255 (n % 255) (n / 255)
  rw [show n % 255 + 255 * (n / 255) = n from by omega] at this
  exact this.symm

theorem pw_bd (n : Nat) : pw n ≠ 0 ∧ pw n < 256 := by
  rw [← pw_mod]
  exact tab_small _ (List.mem_of_getElem? (tab_at _ (by omega)))

theorem lt_pw (k i : Nat) (hk : k ≤ 255) (hi : i < k) : lt k (pw i) = i := by
  induction k with
  | zero => omega
  | succ k ih =>
    unfold lt
    by_cases e : i = k
    · subst e; simp
    · rw [if_neg (fun h => e (pw_inj i k (by omega) (by omega) h))]
      exact ih (by omega) (by omega)

theorem lg_pw (i : Nat) (hi : i < 255) : lg (pw i) = i := lt_pw 255 i (by omega) hi

theorem is_pw (a : Nat) (h : a < 256) (h0 : a ≠ 0) : ∃ i, i < 255 ∧ pw i = a := by
  obtain ⟨i, hi⟩ := List.getElem?_of_mem (tab_all a h h0)
  have hl : i < 255 := by
    have := (List.getElem?_eq_some_iff.1 hi).1
    rwa [run_len] at this
  exact ⟨i, hl, by rw [tab_at i hl] at hi; exact Option.some.inj hi⟩

theorem lt_lt : ∀ (k x : Nat), k ≤ 256 → lt k x < 256
  | 0, _, _ => by simp [lt]
  | k + 1, x, h => by
    unfold lt
    split
    · omega
    · exact lt_lt k x (by omega)

theorem lg_lt (x : Nat) : lg x < 255 := by
  have : ∀ k, k ≤ 255 → lt k x < 255 := by
    intro k
    induction k with
    | zero => intro _; simp [lt]
    | succ k ih =>
      intro h
      unfold lt
      split
      · omega
      · exact ih (by omega)
  exact this 255 (by omega)

theorem pw_lg (a : Nat) (h : a < 256) (h0 : a ≠ 0) : pw (lg a) = a := by
  obtain ⟨i, hi, rfl⟩ := is_pw a h h0
  rw [lg_pw i hi]

theorem mul_pw (i j : Nat) : mul (pw i) (pw j) = pw (i + j) := by
  unfold mul
  rw [if_neg (by have := pw_bd i; have := pw_bd j; omega)]
  rw [← pw_mod i, ← pw_mod j, lg_pw _ (by omega), lg_pw _ (by omega), pw_mod, ← pw_mod (i + j), ← pw_mod (i % 255 + j % 255)]
  congr 1; omega

theorem mul_zero (a : Nat) : mul a 0 = 0 := by simp [mul]
theorem zero_mul (a : Nat) : mul 0 a = 0 := by simp [mul]
theorem mul_comm (a b : Nat) : mul a b = mul b a := by
  unfold mul
  rw [Nat.add_comm (lg a)]
  by_cases h : a = 0 ∨ b = 0
  · rw [if_pos h, if_pos h.symm]
  · rw [if_neg h, if_neg (fun k => h k.symm)]

theorem mul_lt (a b : Nat) : mul a b < 256 := by
  unfold mul
  split
  · omega
  · exact (pw_bd _).2

theorem mul_ne (a b : Nat) (h : a ≠ 0) (k : b ≠ 0) : mul a b ≠ 0 := by
  unfold mul
  rw [if_neg (by omega)]
  exact (pw_bd _).1

theorem mul_assoc (a b c : Nat) (ha : a < 256) (hb : b < 256) (hc : c < 256) : mul (mul a b) c = mul a (mul b c) := by
  by_cases a0 : a = 0
  · subst a0; simp [zero_mul]
  by_cases b0 : b = 0
  · subst b0; simp [zero_mul, mul_zero]
  by_cases c0 : c = 0
  · subst c0; simp [mul_zero]
  obtain ⟨i, _, rfl⟩ := is_pw a ha a0
  obtain ⟨j, _, rfl⟩ := is_pw b hb b0
  obtain ⟨k, _, rfl⟩ := is_pw c hc c0
  simp only [mul_pw]
  congr 1; omega

def tris : Nat → Nat → Nat
  | 0, x => x
  | n + 1, x => tri (tris n x)
theorem tris_lt : ∀ (n x : Nat), x < 256 → tris n x < 256
  | 0, _, h => h
  | n + 1, x, h => tri_lt _ (tris_lt n x h)
theorem tris_add : ∀ (n a b : Nat), a < 256 → b < 256 → tris n (a ^^^ b) = tris n a ^^^ tris n b
  | 0, _, _, _, _ => rfl
  | n + 1, a, b, ha, hb => by
    show tri (tris n (a ^^^ b)) = tri (tris n a) ^^^ tri (tris n b)
    rw [tris_add n a b ha hb, tri_add _ (tris_lt n a ha) _ (tris_lt n b hb)]
theorem tris_zero : ∀ n, tris n 0 = 0
  | 0 => rfl
  | n + 1 => by show tri (tris n 0) = 0; rw [tris_zero n]; rfl
theorem tris_pw : ∀ n j, tris n (pw j) = pw (n + j)
  | 0, j => by simp [tris]
  | n + 1, j => by
    show tri (tris n (pw j)) = _
    rw [tris_pw n j, show n + 1 + j = (n + j) + 1 from by omega]; rfl
theorem mul_tris (i b : Nat) (hb : b < 256) : mul (pw i) b = tris i b := by
  by_cases b0 : b = 0
  · subst b0; rw [mul_zero, tris_zero]
  · obtain ⟨j, _, rfl⟩ := is_pw b hb b0
    rw [mul_pw, tris_pw]

theorem xor_lt (a b : Nat) (ha : a < 256) (hb : b < 256) : a ^^^ b < 256 := Nat.xor_lt_two_pow (n := 8) ha hb

theorem mul_add (a b c : Nat) (ha : a < 256) (hb : b < 256) (hc : c < 256) : mul a (b ^^^ c) = mul a b ^^^ mul a c := by
  by_cases a0 : a = 0
  · subst a0; simp [zero_mul]
  obtain ⟨i, _, rfl⟩ := is_pw a ha a0
  rw [mul_tris i _ (xor_lt b c hb hc), mul_tris i _ hb, mul_tris i _ hc, tris_add i b c hb hc]

theorem add_mul (a b c : Nat) (ha : a < 256) (hb : b < 256) (hc : c < 256) : mul (a ^^^ b) c = mul a c ^^^ mul b c := by
  rw [mul_comm, mul_add c a b hc ha hb, mul_comm c a, mul_comm c b]

theorem mul_one (a : Nat) (ha : a < 256) : mul a 1 = a := by
  rw [mul_comm, show (1 : Nat) = pw 0 from rfl, mul_tris 0 a ha]; rfl
theorem one_mul (a : Nat) (ha : a < 256) : mul 1 a = a := by rw [mul_comm, mul_one a ha]
theorem mul_three (a : Nat) (ha : a < 256) : mul 3 a = tri a := by
  rw [show (3 : Nat) = pw 1 from by decide +kernel, mul_tris 1 a ha]; rfl
theorem mul_two (a : Nat) (ha : a < 256) : mul 2 a = dbl a := by
  rw [show (2 : Nat) = 3 ^^^ 1 from by decide, add_mul 3 1 a (by omega) (by omega) ha, mul_three a ha, one_mul a ha]
  unfold tri
  rw [Nat.xor_assoc, Nat.xor_self, Nat.xor_zero]

/-! Quotients. -/
theorem quo_lt (a b : Nat) : quo a b < 256 := by
  unfold quo
  split
  · omega
  · exact (pw_bd _).2
theorem quo_mul (a b : Nat) (ha : a < 256) (hb : b < 256) (b0 : b ≠ 0) : mul (quo a b) b = a := by
  obtain ⟨j, hj, rfl⟩ := is_pw b hb b0
  by_cases a0 : a = 0
  · subst a0; simp [quo, zero_mul]
  obtain ⟨i, hi, rfl⟩ := is_pw a ha a0
  unfold quo
  rw [if_neg a0, lg_pw i hi, lg_pw j hj, mul_pw, ← pw_mod, ← pw_mod i]
  congr 1; omega
/-- What is multiplied by an element other than 0 tells the element. -/
theorem mul_cancel (a c b : Nat) (ha : a < 256) (hc : c < 256) (hb : b < 256) (b0 : b ≠ 0) (h : mul a b = mul c b) : a = c := by
  have hq := quo_mul 1 b (by omega) hb b0
  have e1 : mul (mul a b) (quo 1 b) = a := by
    rw [mul_assoc a b _ ha hb (quo_lt _ _), mul_comm b, hq, mul_one a ha]
  have e2 : mul (mul c b) (quo 1 b) = c := by
    rw [mul_assoc c b _ hc hb (quo_lt _ _), mul_comm b, hq, mul_one c hc]
  rw [← e1, ← e2, h]
theorem quo_of (a b d : Nat) (ha : a < 256) (hb : b < 256) (b0 : b ≠ 0) (hd : d < 256) (h : mul d b = a) : quo a b = d :=
  mul_cancel _ _ b (quo_lt _ _) hd hb b0 ((quo_mul a b ha hb b0).trans h.symm)
theorem quo_ne (a b : Nat) (a0 : a ≠ 0) : quo a b ≠ 0 := by
  unfold quo
  rw [if_neg a0]
  exact (pw_bd _).1
theorem quo_inv (a b : Nat) (ha : a < 256) (hb : b < 256) (b0 : b ≠ 0) : quo a b = mul a (quo 1 b) := by
  refine quo_of a b _ ha hb b0 (mul_lt _ _) ?_
  rw [mul_assoc a _ b ha (quo_lt _ _) hb, quo_mul 1 b (by omega) hb b0, mul_one a ha]
theorem inv_inv (b : Nat) (hb : b < 256) (b0 : b ≠ 0) : quo 1 (quo 1 b) = b :=
  quo_of 1 _ b (by omega) (quo_lt _ _) (quo_ne 1 b (by omega)) hb (by rw [mul_comm]; exact quo_mul 1 b (by omega) hb b0)
theorem mul_quo (a b : Nat) (ha : a < 256) (hb : b < 256) (b0 : b ≠ 0) : quo (mul a b) b = a :=
  quo_of _ b a (mul_lt _ _) hb b0 ha rfl
theorem inv_inj (a b : Nat) (ha : a < 256) (hb : b < 256) (a0 : a ≠ 0) (b0 : b ≠ 0) (h : quo 1 a = quo 1 b) : a = b := by
  rw [← inv_inv a ha a0, ← inv_inv b hb b0, h]

/-! Powers. -/
theorem pow_lt (a n : Nat) : pow a n < 256 := by
  unfold pow
  split
  · omega
  · split
    · omega
    · exact (pw_bd _).2
theorem pow_pw (i n : Nat) (hi : i < 255) : pow (pw i) n = pw (i * n) := by
  unfold pow
  by_cases n0 : n = 0
  · subst n0; simp [pw]
  · rw [if_neg n0, if_neg (pw_bd i).1, lg_pw i hi, pw_mod, ← pw_mod (i * (n % 255)), ← pw_mod (i * n)]
    congr 1
    rw [Nat.mul_mod, Nat.mod_mod, ← Nat.mul_mod]
theorem pow_zero (a : Nat) : pow a 0 = 1 := by simp [pow]
theorem zero_pow (n : Nat) (h : n ≠ 0) : pow 0 n = 0 := by simp [pow, h]
theorem pow_succ (a n : Nat) (ha : a < 256) : pow a (n + 1) = mul (pow a n) a := by
  by_cases a0 : a = 0
  · subst a0; rw [zero_pow _ (by omega), mul_zero]
  · obtain ⟨i, hi, rfl⟩ := is_pw a ha a0
    rw [pow_pw i _ hi, pow_pw i _ hi, mul_pw]; rfl
theorem pow_add (a n m : Nat) (ha : a < 256) : pow a (n + m) = mul (pow a n) (pow a m) := by
  by_cases a0 : a = 0
  · subst a0
    by_cases n0 : n = 0
    · subst n0; rw [pow_zero, Nat.zero_add, one_mul _ (pow_lt _ _)]
    · rw [zero_pow n n0, zero_mul, zero_pow _ (by omega)]
  · obtain ⟨i, hi, rfl⟩ := is_pw a ha a0
    rw [pow_pw i _ hi, pow_pw i _ hi, pow_pw i _ hi, mul_pw, Nat.mul_add]
theorem pow_one (a : Nat) (ha : a < 256) : pow a 1 = a := by rw [pow_succ a 0 ha, pow_zero, one_mul a ha]
theorem pow_two (a : Nat) (ha : a < 256) : pow a 2 = mul a a := by rw [pow_succ a 1 ha, pow_one a ha]
theorem pow_255 (a : Nat) (ha : a < 256) (a0 : a ≠ 0) : pow a 255 = 1 := by
  obtain ⟨i, hi, rfl⟩ := is_pw a ha a0
  rw [pow_pw i _ hi, ← pw_mod, Nat.mul_mod_left]; rfl
theorem pow_256 (a : Nat) (ha : a < 256) : pow a 256 = a := by
  by_cases a0 : a = 0
  · subst a0; rfl
  · rw [pow_succ a 255 ha, pow_255 a ha a0, one_mul a ha]
theorem pow_mod (a n : Nat) (ha : a < 256) (a0 : a ≠ 0) : pow a (n % 255) = pow a n := by
  obtain ⟨i, hi, rfl⟩ := is_pw a ha a0
  rw [pow_pw i _ hi, pow_pw i _ hi, ← pw_mod (i * (n % 255)), ← pw_mod (i * n)]
  congr 1
  rw [Nat.mul_mod, Nat.mod_mod, ← Nat.mul_mod]
theorem pow_three (n : Nat) : pow 3 n = pw n := by
  rw [show (3 : Nat) = pw 1 from by decide +kernel, pow_pw 1 n (by omega), Nat.one_mul]
theorem pow_lg (a : Nat) (ha : a < 256) (a0 : a ≠ 0) : pow 3 (lg a) = a := by rw [pow_three, pw_lg a ha a0]
theorem pow_sq (a n : Nat) (ha : a < 256) : pow (mul a a) n = pow a (2 * n) := by
  by_cases a0 : a = 0
  · subst a0
    rw [mul_zero]
    by_cases n0 : n = 0
    · subst n0; rfl
    · rw [zero_pow n n0, zero_pow _ (by omega)]
  · obtain ⟨i, hi, rfl⟩ := is_pw a ha a0
    rw [mul_pw, ← pw_mod (i + i), pow_pw _ n (by omega), pow_pw i _ hi, ← pw_mod, ← pw_mod (i * (2 * n))]
    congr 1
    rw [Nat.mul_mod, Nat.mod_mod, ← Nat.mul_mod]
    congr 1
    rw [← Nat.mul_assoc]
    congr 1; omega

/-- One round of the power by squares. -/
theorem pow_step (o x m : Nat) (ho : o < 256) (hx : x < 256) : mul o (pow x m) = mul (if m % 2 = 1 then mul o x else o) (pow (mul x x) (m / 2)) := by
  rw [pow_sq x _ hx]
  split
  · rename_i h
    rw [mul_assoc o x _ ho hx (pow_lt _ _), mul_comm x, ← pow_succ x _ hx]
    congr 2; omega
  · congr 2; omega

/-! Squares. -/
theorem sq_add (a b : Nat) (ha : a < 256) (hb : b < 256) : pow (a ^^^ b) 2 = pow a 2 ^^^ pow b 2 := by
  have hx := xor_lt a b ha hb
  rw [pow_two _ hx, pow_two a ha, pow_two b hb, mul_add _ a b hx ha hb, add_mul a b a ha hb ha, add_mul a b b ha hb hb, mul_comm b a]
  rw [Nat.xor_assoc, ← Nat.xor_assoc (mul a b), Nat.xor_self, Nat.zero_xor]
theorem xor_zero_iff (a b : Nat) (h : a ^^^ b = 0) : a = b := by
  have e : (a ^^^ b) ^^^ b = a := by rw [Nat.xor_assoc, Nat.xor_self, Nat.xor_zero]
  rw [← e, h, Nat.zero_xor]
theorem sq_inj (a b : Nat) (ha : a < 256) (hb : b < 256) (h : pow a 2 = pow b 2) : a = b := by
  have hx := xor_lt a b ha hb
  have e : pow (a ^^^ b) 2 = 0 := by rw [sq_add a b ha hb, h, Nat.xor_self]
  rw [pow_two _ hx] at e
  refine xor_zero_iff a b (Decidable.byContradiction fun hn => mul_ne _ _ hn hn e)

/-! Logarithms. -/
theorem lg_mul (a b : Nat) (a0 : a ≠ 0) (b0 : b ≠ 0) : lg (mul a b) = (lg a + lg b) % 255 := by
  unfold mul
  rw [if_neg (by omega), lg_pw _ (by omega)]
theorem lg_pow3 (n : Nat) : lg (pow 3 n) = n % 255 := by
  rw [pow_three, ← pw_mod, lg_pw _ (by omega)]
theorem lg_inj (a b : Nat) (ha : a < 256) (hb : b < 256) (a0 : a ≠ 0) (b0 : b ≠ 0) (h : lg a = lg b) : a = b := by
  rw [← pw_lg a ha a0, ← pw_lg b hb b0, h]

/-- One round of the product bit by bit. -/
theorem mul_step (x y : Nat) (hx : x < 256) (hy : y < 256) : mul x y = (if y % 2 = 1 then x else 0) ^^^ mul (dbl x) (y / 2) := by
  have h2 : mul 2 (y / 2) = 2 * (y / 2) := by
    rw [mul_two _ (by omega)]
    unfold dbl
    rw [if_pos (by omega), Nat.xor_zero, Nat.mod_eq_of_lt (by omega)]
  have e : y = (y % 2) ^^^ (2 * (y / 2)) := by
    have hs : ∀ y, y < 256 → y = (y % 2) ^^^ (2 * (y / 2)) := by decide +kernel
    exact hs y hy
  have e2 : mul x (y % 2) = if y % 2 = 1 then x else 0 := by
    rcases Nat.mod_two_eq_zero_or_one y with h | h
    · rw [h, mul_zero]; rfl
    · rw [h, mul_one x hx]; rfl
  have e3 : mul x (2 * (y / 2)) = mul (dbl x) (y / 2) := by
    rw [← h2, ← mul_assoc x 2 _ hx (by omega) (by omega), mul_comm x 2, mul_two x hx]
  conv => lhs; rw [e]
  rw [mul_add x _ _ hx (by omega) (by omega), e2, e3]

end Gf

/-
  The plain mathematics of polynomials over the field with 256 elements, as lists of coefficients, the lowest first: values, sums, products, trimming, division's uniqueness, and that as many values as coefficients tell a polynomial. Conditions: none; nothing of the program is named here.
-/
namespace Pol
open Gf (mul)

/-! ### Sums without carry -/
def xs : Nat → (Nat → Nat) → Nat
  | 0, _ => 0
  | n + 1, f => xs n f ^^^ f n
theorem xs_congr {f g : Nat → Nat} : ∀ n, (∀ i, i < n → f i = g i) → xs n f = xs n g
  | 0, _ => rfl
  | n + 1, h => by simp only [xs]; rw [xs_congr n (fun i hi => h i (by omega)), h n (by omega)]
theorem xs_zero {f : Nat → Nat} : ∀ n, (∀ i, i < n → f i = 0) → xs n f = 0
  | 0, _ => rfl
  | n + 1, h => by simp only [xs]; rw [xs_zero n (fun i hi => h i (by omega)), h n (by omega)]; rfl
theorem xs_shift (f : Nat → Nat) : ∀ n, xs (n + 1) f = f 0 ^^^ xs n (fun i => f (i + 1))
  | 0 => by simp [xs]
  | n + 1 => by rw [xs, xs_shift f n]; simp only [xs]; rw [Nat.xor_assoc]
theorem xor_swap (a b c d : Nat) : (a ^^^ b) ^^^ (c ^^^ d) = (a ^^^ c) ^^^ (b ^^^ d) := by
  rw [Nat.xor_assoc, Nat.xor_assoc, ← Nat.xor_assoc b, ← Nat.xor_assoc c, Nat.xor_comm b c]
theorem xs_add (f g : Nat → Nat) : ∀ n, xs n (fun i => f i ^^^ g i) = xs n f ^^^ xs n g
  | 0 => (Nat.xor_self 0).symm
  | n + 1 => by simp only [xs]; rw [xs_add f g n, xor_swap]
theorem xs_lt {f : Nat → Nat} : ∀ n, (∀ i, i < n → f i < 256) → xs n f < 256
  | 0, _ => by simp [xs]
  | n + 1, h => Gf.xor_lt _ _ (xs_lt n (fun i hi => h i (by omega))) (h n (by omega))
/-- One summand changes. -/
theorem xs_update (f : Nat → Nat) (d c : Nat) : ∀ n, d < n → xs n (fun i => if i = d then f i ^^^ c else f i) = xs n f ^^^ c
  | 0, h => by omega
  | n + 1, h => by
    simp only [xs]
    by_cases e : d = n
    · subst e
      rw [if_pos rfl, xs_congr (g := f) d (fun i hi => if_neg (by omega)), Nat.xor_assoc]
    · rw [if_neg (fun h => e h.symm), xs_update f d c n (by omega), Nat.xor_assoc, Nat.xor_comm c, ← Nat.xor_assoc]
theorem mul_xs (x : Nat) (f : Nat → Nat) (hx : x < 256) : ∀ n, (∀ i, i < n → f i < 256) → mul x (xs n f) = xs n (fun i => mul x (f i))
  | 0, _ => Gf.mul_zero x
  | n + 1, h => by
    simp only [xs]
    rw [Gf.mul_add x _ _ hx (xs_lt n (fun i hi => h i (by omega))) (h n (by omega)), mul_xs x f hx n (fun i hi => h i (by omega))]

/-! ### Coefficients -/
def co (l : List Nat) (i : Nat) : Nat := l[i]?.getD 0
def Sm (l : List Nat) : Prop := ∀ i, co l i < 256
theorem co_nil (i : Nat) : co [] i = 0 := by simp [co]
theorem co_zero (x : Nat) (l : List Nat) : co (x :: l) 0 = x := by simp [co]
theorem co_succ (x : Nat) (l : List Nat) (i : Nat) : co (x :: l) (i + 1) = co l i := by simp [co]
theorem co_out (l : List Nat) (i : Nat) (h : l.length ≤ i) : co l i = 0 := by simp [co, List.getElem?_eq_none h]
theorem co_lt_of {l : List Nat} (h : ∀ x ∈ l, x < 256) : Sm l := fun i => by
  unfold co
  cases hq : l[i]? with
  | none => simp
  | some v => simpa using h v (List.mem_of_getElem? hq)
theorem Sm.mem {l : List Nat} (h : Sm l) : ∀ x ∈ l, x < 256 := fun x hx => by
  obtain ⟨i, hi⟩ := List.getElem?_of_mem hx
  have := h i
  simpa [co, hi] using this
theorem Sm.nil : Sm [] := fun i => by rw [co_nil]; omega
theorem Sm.tail {x : Nat} {l : List Nat} (h : Sm (x :: l)) : Sm l := fun i => by have := h (i + 1); rwa [co_succ] at this
theorem Sm.head {x : Nat} {l : List Nat} (h : Sm (x :: l)) : x < 256 := by have := h 0; rwa [co_zero] at this
theorem Sm.cons {x : Nat} {l : List Nat} (hx : x < 256) (h : Sm l) : Sm (x :: l) := fun i => by
  cases i with
  | zero => rw [co_zero]; exact hx
  | succ i => rw [co_succ]; exact h i

/-! ### Trimming -/
def trim : List Nat → List Nat
  | [] => []
  | x :: l => match trim l with
    | [] => if x = 0 then [] else [x]
    | y :: t => x :: y :: t
theorem trim_cons (x : Nat) (l : List Nat) : trim (x :: l) = if trim l = [] ∧ x = 0 then [] else x :: trim l := by
  rw [trim]
  cases h : trim l with
  | nil => by_cases e : x = 0 <;> simp [e]
  | cons y t => simp
theorem co_trim : ∀ (l : List Nat) (i : Nat), co (trim l) i = co l i
  | [], _ => rfl
  | x :: l, i => by
    rw [trim_cons]
    split
    · rename_i h
      cases i with
      | zero => rw [co_nil, co_zero, h.2]
      | succ i => rw [co_nil, co_succ, ← co_trim l i, h.1, co_nil]
    · cases i with
      | zero => rw [co_zero, co_zero]
      | succ i => rw [co_succ, co_succ, co_trim l i]
theorem trim_ext : ∀ (a b : List Nat), (∀ i, co a i = co b i) → trim a = trim b
  | [], [], _ => rfl
  | [], y :: b, h => by
    have h0 := h 0
    rw [co_nil, co_zero] at h0
    have ih := trim_ext [] b (fun i => by have := h (i + 1); rwa [co_nil, co_succ] at this)
    rw [trim_cons, ← ih, if_pos ⟨rfl, h0.symm⟩]; rfl
  | x :: a, [], h => by
    have h0 := h 0
    rw [co_nil, co_zero] at h0
    have ih := trim_ext a [] (fun i => by have := h (i + 1); rw [co_succ] at this; rw [this, co_nil, co_nil])
    rw [trim_cons, ih, if_pos ⟨rfl, h0⟩]; rfl
  | x :: a, y :: b, h => by
    have h0 := h 0
    rw [co_zero, co_zero] at h0
    have ih := trim_ext a b (fun i => by have := h (i + 1); rwa [co_succ, co_succ] at this)
    rw [trim_cons, trim_cons, ih, h0]
theorem trim_trim (l : List Nat) : trim (trim l) = trim l := trim_ext _ _ (co_trim l)
theorem trim_len (l : List Nat) : (trim l).length ≤ l.length := by
  induction l with
  | nil => simp [trim]
  | cons x l ih =>
    rw [trim_cons]
    split
    · simp
    · simp; exact ih
theorem trim_le : ∀ (l : List Nat) (n : Nat), (∀ i, n ≤ i → co l i = 0) → (trim l).length ≤ n
  | [], n, _ => by simp [trim]
  | x :: l, 0, h => by
    have : trim (x :: l) = trim [] := trim_ext _ _ (fun i => by rw [h i (by omega), co_nil])
    rw [this]; simp [trim]
  | x :: l, n + 1, h => by
    have := trim_le l n (fun i hi => by have := h (i + 1) (by omega); rwa [co_succ] at this)
    rw [trim_cons]
    split
    · simp
    · simp; exact this
/-- The last coefficient of what is trimmed is not 0. -/
theorem trim_last : ∀ (l : List Nat), trim l ≠ [] → co l ((trim l).length - 1) ≠ 0
  | [], h => absurd rfl h
  | x :: l, h => by
    rw [trim_cons] at h ⊢
    by_cases e : trim l = [] ∧ x = 0
    · rw [if_pos e] at h; exact absurd rfl h
    · rw [if_neg e]
      by_cases t : trim l = []
      · rw [t]; simp only [List.length_cons, List.length_nil]
        show co (x :: l) 0 ≠ 0
        rw [co_zero]; exact fun h => e ⟨t, h⟩
      · have := trim_last l t
        have hl : 0 < (trim l).length := List.length_pos_iff.2 t
        rw [List.length_cons, show (trim l).length + 1 - 1 = ((trim l).length - 1) + 1 from by omega, co_succ]
        exact this
theorem trim_of (l : List Nat) (n : Nat) (hn : n ≤ l.length) (h : ∀ i, n ≤ i → co l i = 0) (h1 : n = 0 ∨ co l (n - 1) ≠ 0) : trim l = l.take n := by
  have hlen : (trim l).length = n := by
    have h2 := trim_le l n h
    rcases h1 with rfl | h1
    · omega
    · rcases Nat.lt_or_ge (trim l).length n with hlt | hge
      · have := co_trim l (n - 1)
        rw [co_out (trim l) (n - 1) (by omega)] at this
        exact absurd this.symm h1
      · omega
  apply List.ext_getElem?
  intro i
  by_cases hi : i < n
  · have e := co_trim l i
    unfold co at e
    rw [List.getElem?_take, if_pos hi, List.getElem?_eq_getElem (by omega), List.getElem?_eq_getElem (by omega)]
    rw [List.getElem?_eq_getElem (by omega), List.getElem?_eq_getElem (by omega)] at e
    simpa using e
  · rw [List.getElem?_eq_none (by omega), List.getElem?_eq_none (by simp; omega)]
theorem trim_fix (l : List Nat) (h : l = [] ∨ co l (l.length - 1) ≠ 0) : trim l = l := by
  rw [trim_of l l.length (Nat.le_refl _) (fun i hi => co_out l i hi) (by rcases h with rfl | h; exact .inl rfl; exact .inr h), List.take_length]
theorem Sm.trim {l : List Nat} (h : Sm l) : Sm (trim l) := fun i => by rw [co_trim]; exact h i

/-! ### Values -/
def ev : List Nat → Nat → Nat
  | [], _ => 0
  | a :: l, x => a ^^^ mul x (ev l x)
theorem ev_lt : ∀ (l : List Nat) (x : Nat), Sm l → ev l x < 256
  | [], _, _ => by simp [ev]
  | a :: l, x, h => Gf.xor_lt _ _ h.head (Gf.mul_lt _ _)
theorem ev_all_zero : ∀ (l : List Nat) (x : Nat), (∀ i, co l i = 0) → ev l x = 0
  | [], _, _ => rfl
  | a :: l, x, h => by
    have h0 := h 0
    rw [co_zero] at h0
    rw [ev, h0, ev_all_zero l x (fun i => by have := h (i + 1); rwa [co_succ] at this), Gf.mul_zero]; rfl
theorem ev_congr : ∀ (a b : List Nat) (x : Nat), (∀ i, co a i = co b i) → ev a x = ev b x
  | [], b, x, h => by rw [ev_all_zero b x (fun i => by rw [← h i, co_nil])]; rfl
  | x' :: a, [], x, h => by rw [ev_all_zero (x' :: a) x (fun i => by rw [h i, co_nil])]; rfl
  | x' :: a, y :: b, x, h => by
    have h0 := h 0
    rw [co_zero, co_zero] at h0
    rw [ev, ev, h0, ev_congr a b x (fun i => by have := h (i + 1); rwa [co_succ, co_succ] at this)]
theorem ev_trim (l : List Nat) (x : Nat) : ev (trim l) x = ev l x := ev_congr _ _ _ (co_trim l)
/-- The value, power by power. -/
theorem ev_pow : ∀ (l : List Nat) (x : Nat), Sm l → x < 256 → ev l x = xs l.length (fun i => mul (co l i) (Gf.pow x i))
  | [], _, _, _ => rfl
  | a :: l, x, h, hx => by
    have hl := h.tail
    rw [ev, ev_pow l x hl hx, mul_xs x _ hx _ (fun i _ => Gf.mul_lt _ _), List.length_cons, xs_shift]
    rw [co_zero, Gf.pow_zero, Gf.mul_one a h.head]
    congr 1
    apply xs_congr
    intro i _
    rw [co_succ, Gf.pow_succ x i hx, Gf.mul_comm (Gf.pow x i) x, ← Gf.mul_assoc _ _ _ (hl i) hx (Gf.pow_lt _ _), ← Gf.mul_assoc _ _ _ hx (hl i) (Gf.pow_lt _ _), Gf.mul_comm x]

/-! ### Sums -/
def addP : List Nat → List Nat → List Nat
  | [], b => b
  | a, [] => a
  | x :: a, y :: b => (x ^^^ y) :: addP a b
theorem addP_nil (a : List Nat) : addP a [] = a := by cases a <;> rfl
theorem co_addP : ∀ (a b : List Nat) (i : Nat), co (addP a b) i = co a i ^^^ co b i
  | [], b, i => by rw [addP, co_nil, Nat.zero_xor]
  | x :: a, [], i => by rw [addP_nil, co_nil, Nat.xor_zero]
  | x :: a, y :: b, 0 => by rw [addP, co_zero, co_zero, co_zero]
  | x :: a, y :: b, i + 1 => by rw [addP, co_succ, co_succ, co_succ, co_addP a b i]
theorem addP_len : ∀ (a b : List Nat), (addP a b).length = max a.length b.length
  | [], b => by simp [addP]
  | x :: a, [] => by simp [addP]
  | x :: a, y :: b => by simp only [addP, List.length_cons, addP_len a b]; omega
theorem Sm.add {a b : List Nat} (ha : Sm a) (hb : Sm b) : Sm (addP a b) := fun i => by rw [co_addP]; exact Gf.xor_lt _ _ (ha i) (hb i)
theorem ev_addP : ∀ (a b : List Nat) (x : Nat), Sm a → Sm b → x < 256 → ev (addP a b) x = ev a x ^^^ ev b x
  | [], b, x, _, _, _ => by rw [addP, ev, Nat.zero_xor]
  | y :: a, [], x, _, _, _ => by rw [addP_nil, ev, ev, Nat.xor_zero]
  | y :: a, z :: b, x, ha, hb, hx => by
    rw [addP, ev, ev, ev, ev_addP a b x ha.tail hb.tail hx, Gf.mul_add x _ _ hx (ev_lt a x ha.tail) (ev_lt b x hb.tail), xor_swap]

/-! ### Products -/
def scale (c : Nat) (l : List Nat) : List Nat := l.map (mul c)
theorem co_scale (c : Nat) (l : List Nat) (i : Nat) : co (scale c l) i = mul c (co l i) := by
  unfold co scale
  rw [List.getElem?_map]
  cases l[i]? with
  | none => simp [Gf.mul_zero]
  | some v => simp
theorem Sm.scale (c : Nat) (l : List Nat) : Sm (scale c l) := fun i => by rw [co_scale]; exact Gf.mul_lt _ _
theorem ev_scale (c : Nat) (hc : c < 256) : ∀ (l : List Nat) (x : Nat), Sm l → x < 256 → ev (scale c l) x = mul c (ev l x)
  | [], x, _, _ => (Gf.mul_zero c).symm
  | a :: l, x, h, hx => by
    show mul c a ^^^ mul x (ev (scale c l) x) = mul c (a ^^^ mul x (ev l x))
    rw [ev_scale c hc l x h.tail hx, Gf.mul_add c _ _ hc h.head (Gf.mul_lt _ _), ← Gf.mul_assoc x c _ hx hc (ev_lt l x h.tail), ← Gf.mul_assoc c x _ hc hx (ev_lt l x h.tail), Gf.mul_comm x c]
def mulP : List Nat → List Nat → List Nat
  | [], _ => []
  | x :: a, b => addP (scale x b) (0 :: mulP a b)
theorem Sm.mul (a b : List Nat) : Sm (mulP a b) := by
  induction a with
  | nil => exact Sm.nil
  | cons x a ih => exact (Sm.scale x b).add (Sm.cons (by omega) ih)
theorem ev_mulP : ∀ (a b : List Nat) (x : Nat), Sm a → Sm b → x < 256 → ev (mulP a b) x = Gf.mul (ev a x) (ev b x)
  | [], b, x, _, _, _ => (Gf.zero_mul _).symm
  | y :: a, b, x, ha, hb, hx => by
    have h0 : Sm (0 :: mulP a b) := Sm.cons (by omega) (Sm.mul a b)
    rw [mulP, ev_addP _ _ x (Sm.scale y b) h0 hx, ev_scale y ha.head b x hb hx, ev, ev, Nat.zero_xor, ev_mulP a b x ha.tail hb hx]
    rw [Gf.add_mul _ _ _ ha.head (Gf.mul_lt _ _) (ev_lt b x hb), Gf.mul_assoc x _ _ hx (ev_lt a x ha.tail) (ev_lt b x hb)]
/-- A product's coefficient, summand by summand. -/
def pc (n : Nat) (A B : Nat → Nat) (j : Nat) : Nat := xs n (fun i => if i ≤ j then mul (A i) (B (j - i)) else 0)
theorem co_mulP : ∀ (a b : List Nat) (j : Nat), co (mulP a b) j = pc a.length (co a) (co b) j
  | [], b, j => by rw [mulP, co_nil]; rfl
  | x :: a, b, 0 => by
    rw [mulP, co_addP, co_scale, co_zero, Nat.xor_zero]
    unfold pc
    rw [List.length_cons, xs_shift, if_pos (Nat.le_refl _), co_zero, xs_zero a.length (fun i _ => if_neg (by omega)), Nat.xor_zero]
  | x :: a, b, j + 1 => by
    rw [mulP, co_addP, co_scale, co_succ, co_mulP a b j]
    unfold pc
    rw [List.length_cons, xs_shift, if_pos (by omega), co_zero]
    congr 1
    apply xs_congr
    intro i _
    simp only [co_succ, Nat.add_sub_add_right, Nat.add_le_add_iff_right]
theorem pc_more (A B : Nat → Nat) (n m j : Nat) (hA : ∀ i, n ≤ i → A i = 0) (h : n ≤ m) : pc m A B j = pc n A B j := by
  obtain ⟨d, rfl⟩ : ∃ d, m = n + d := ⟨m - n, by omega⟩
  induction d with
  | zero => rfl
  | succ d ih =>
    have := ih (by omega)
    unfold pc at this ⊢
    rw [show n + (d + 1) = (n + d) + 1 from rfl, xs, this, hA (n + d) (by omega), Gf.zero_mul]
    simp
/-- A coefficient more, at one place. -/
theorem pc_update (n : Nat) (A B : Nat → Nat) (d c j : Nat) (hd : d < n) (hA : ∀ i, A i < 256) (hB : ∀ i, B i < 256) (hc : c < 256) :
    pc n (fun i => if i = d then A i ^^^ c else A i) B j = pc n A B j ^^^ (if d ≤ j then mul c (B (j - d)) else 0) := by
  have e := xs_update (fun i => if i ≤ j then mul (A i) (B (j - i)) else 0) d (if d ≤ j then mul c (B (j - d)) else 0) n hd
  unfold pc
  rw [← e]
  apply xs_congr
  intro i _
  by_cases hi : i = d
  · subst hi
    simp only [if_true]
    by_cases hj : i ≤ j
    · rw [if_pos hj, if_pos hj, if_pos hj, Gf.add_mul _ _ _ (hA i) hc (hB _)]
    · rw [if_neg hj, if_neg hj, if_neg hj]; rfl
  · simp only [if_neg hi]
theorem mulP_len (a b : List Nat) (j : Nat) (h : a.length + b.length ≤ j + 1) (hb : b ≠ []) : co (mulP a b) j = 0 := by
  have hl : 0 < b.length := List.length_pos_iff.2 hb
  rw [co_mulP]
  apply xs_zero
  intro i hi
  by_cases hj : i ≤ j
  · rw [if_pos hj, co_out b _ (by omega), Gf.mul_zero]
  · rw [if_neg hj]
theorem mulP_nil (a : List Nat) (j : Nat) : co (mulP a []) j = 0 := by
  rw [co_mulP]
  apply xs_zero
  intro i _
  rw [co_nil, Gf.mul_zero]; simp

/-! ### As many values as coefficients tell a polynomial -/
def sd (c : Nat) : List Nat → List Nat
  | [] => []
  | _ :: l => ev l c :: sd c l
theorem sd_sm (c : Nat) : ∀ (l : List Nat), Sm l → Sm (sd c l)
  | [], _ => Sm.nil
  | _ :: l, h => Sm.cons (ev_lt l c h.tail) (sd_sm c l h.tail)
theorem sd_len (c : Nat) : ∀ (l : List Nat), (sd c l).length = l.length
  | [] => rfl
  | _ :: l => by simp [sd, sd_len c l]
theorem sd_top (c : Nat) : ∀ (l : List Nat) (i : Nat), l.length ≤ i + 1 → co (sd c l) i = 0
  | [], i, _ => co_nil i
  | [_], 0, _ => by simp [sd, co, ev]
  | a :: b :: l, 0, h => by simp at h
  | _ :: l, i + 1, h => by
    rw [sd, co_succ]
    exact sd_top c l i (by simpa using h)
theorem ev_sd (c : Nat) (hc : c < 256) : ∀ (l : List Nat) (y : Nat), Sm l → y < 256 → ev l y = mul (y ^^^ c) (ev (sd c l) y) ^^^ ev l c
  | [], y, _, _ => by simp [ev, sd, Gf.mul_zero]
  | a :: l, y, h, hy => by
    have hl := h.tail
    have hv := ev_lt l c hl
    have hs := ev_lt (sd c l) y (sd_sm c l hl)
    have hx := Gf.xor_lt y c hy hc
    have ih := ev_sd c hc l y hl hy
    simp only [ev, sd]
    generalize ev l c = v at *
    generalize ev (sd c l) y = s at *
    rw [ih, Gf.mul_add y _ _ hy (Gf.mul_lt _ _) hv, Gf.mul_add _ _ _ hx hv (Gf.mul_lt _ _), Gf.add_mul y c v hy hc hv]
    rw [← Gf.mul_assoc y _ _ hy hx hs, ← Gf.mul_assoc _ y _ hx hy hs, Gf.mul_comm y (y ^^^ c)]
    generalize mul (mul (y ^^^ c) y) s = p
    generalize mul y v = q
    generalize mul c v = r
    apply Nat.eq_of_testBit_eq
    intro i
    simp only [Nat.testBit_xor]
    cases a.testBit i <;> cases p.testBit i <;> cases q.testBit i <;> cases r.testBit i <;> rfl
/-- The coefficients, out of those of the quotient by x + c. -/
theorem co_sd (c : Nat) : ∀ (l : List Nat), Sm l → ev l c = 0 → ∀ i, co l i = (if i = 0 then 0 else co (sd c l) (i - 1)) ^^^ mul c (co (sd c l) i)
  | [], _, _, i => by
    rw [sd, co_nil, co_nil, Gf.mul_zero]; split <;> simp
  | a :: l, h, h0, 0 => by
    have : a ^^^ mul c (ev l c) = 0 := h0
    rw [if_pos rfl, co_zero, sd, co_zero, Nat.zero_xor]
    exact Gf.xor_zero_iff _ _ this
  | a :: l, h, h0, i + 1 => by
    rw [if_neg (by omega), co_succ, sd, Nat.add_sub_cancel, co_succ]
    have key : ∀ (l : List Nat) (i : Nat), Sm l → co l i = (if i = 0 then ev l c else co (sd c l) (i - 1)) ^^^ mul c (co (sd c l) i) := by
      intro l
      induction l with
      | nil => intro i _; rw [sd, co_nil, co_nil, Gf.mul_zero]; cases i <;> simp [ev]
      | cons b l ih =>
        intro i hs
        cases i with
        | zero =>
          rw [if_pos rfl, co_zero, sd, co_zero]
          show b = (b ^^^ mul c (ev l c)) ^^^ mul c (ev l c)
          rw [Nat.xor_assoc, Nat.xor_self, Nat.xor_zero]
        | succ i =>
          rw [if_neg (by omega), co_succ, sd, Nat.add_sub_cancel, co_succ, ih i hs.tail]
          cases i with
          | zero => rw [if_pos rfl, co_zero]
          | succ i => rw [if_neg (by omega), Nat.add_sub_cancel, co_succ]
    rw [key l i h.tail]
    cases i with
    | zero => rw [if_pos rfl, co_zero]
    | succ i => rw [if_neg (by omega), Nat.add_sub_cancel, co_succ]
theorem roots : ∀ (n : Nat) (l ps : List Nat), ps.length = n → ps.Nodup → (∀ p ∈ ps, p < 256) → Sm l → (∀ i, n ≤ i → co l i = 0) → (∀ p ∈ ps, ev l p = 0) → ∀ i, co l i = 0
  | 0, l, ps, _, _, _, _, hz, _, i => hz i (by omega)
  | n + 1, l, [], hn, _, _, _, _, _, _ => by simp at hn
  | n + 1, l0, c :: ps, hn, hd, hp, hs, hz, hr, i => by
    -- the list, cut to n + 1 coefficients
    have hc : c < 256 := hp c (by simp)
    let l := l0.take (n + 1)
    have hco : ∀ i, co l i = co l0 i := fun i => by
      show co (l0.take (n + 1)) i = co l0 i
      unfold co
      rw [List.getElem?_take]
      by_cases h : i < n + 1
      · rw [if_pos h]
      · rw [if_neg h]
        have := hz i (by omega)
        unfold co at this
        simpa using this.symm
    have hlen : l.length ≤ n + 1 := by simp [l]; omega
    have hsl : Sm l := fun i => by rw [hco]; exact hs i
    have hev : ∀ x, ev l x = ev l0 x := fun x => ev_congr _ _ _ hco
    have hq := sd_sm c l hsl
    have h0 : ev l c = 0 := by rw [hev]; exact hr c (by simp)
    have ih := roots n (sd c l) ps (by simpa using hn) (List.nodup_cons.1 hd).2 (fun p h => hp p (by simp [h])) hq
      (fun i hi => sd_top c l i (by omega)) (fun p h => by
        have hpl : p < 256 := hp p (by simp [h])
        have e := ev_sd c hc l p hsl hpl
        rw [h0, Nat.xor_zero, hev, hr p (by simp [h])] at e
        have hne : p ^^^ c ≠ 0 := fun k => (List.nodup_cons.1 hd).1 (by rw [← Gf.xor_zero_iff p c k]; exact h)
        exact Decidable.byContradiction fun hk => Gf.mul_ne _ _ hne hk e.symm)
    rw [← hco, co_sd c l hsl h0 i, ih i, Gf.mul_zero, Nat.xor_zero]
    split
    · rfl
    · exact ih _
/-- Two polynomials of fewer coefficients than places at which they meet are one. -/
theorem meet (n : Nat) (a b ps : List Nat) (hn : ps.length = n) (hd : ps.Nodup) (hp : ∀ p ∈ ps, p < 256) (ha : Sm a) (hb : Sm b)
    (hla : ∀ i, n ≤ i → co a i = 0) (hlb : ∀ i, n ≤ i → co b i = 0) (h : ∀ p ∈ ps, ev a p = ev b p) : ∀ i, co a i = co b i := fun i => by
  have := roots n (addP a b) ps hn hd hp (ha.add hb) (fun i hi => by rw [co_addP, hla i hi, hlb i hi]; rfl)
    (fun p hpm => by rw [ev_addP a b p ha hb (hp p hpm), h p hpm, Nat.xor_self]) i
  rw [co_addP] at this
  exact Gf.xor_zero_iff _ _ this

/-! ### Products are linear, and degrees add up -/
theorem pc_add_left (n : Nat) (A C B : Nat → Nat) (j : Nat) (hA : ∀ i, A i < 256) (hC : ∀ i, C i < 256) (hB : ∀ i, B i < 256) :
    pc n (fun i => A i ^^^ C i) B j = pc n A B j ^^^ pc n C B j := by
  unfold pc
  rw [← xs_add]
  apply xs_congr
  intro i _
  by_cases h : i ≤ j
  · simp only [if_pos h]; exact Gf.add_mul _ _ _ (hA i) (hC i) (hB _)
  · simp only [if_neg h]; rfl
theorem pc_add_right (n : Nat) (A B C : Nat → Nat) (j : Nat) (hA : ∀ i, A i < 256) (hB : ∀ i, B i < 256) (hC : ∀ i, C i < 256) :
    pc n A (fun i => B i ^^^ C i) j = pc n A B j ^^^ pc n A C j := by
  unfold pc
  rw [← xs_add]
  apply xs_congr
  intro i _
  by_cases h : i ≤ j
  · simp only [if_pos h]; exact Gf.mul_add _ _ _ (hA i) (hB _) (hC _)
  · simp only [if_neg h]; rfl
theorem co_mulP_of (a b : List Nat) (n j : Nat) (h : a.length ≤ n) : co (mulP a b) j = pc n (co a) (co b) j := by
  rw [co_mulP, pc_more (co a) (co b) a.length n j (fun i hi => co_out a i hi) h]
theorem pc_congr {A A' B B' : Nat → Nat} (n j : Nat) (hA : ∀ i, A i = A' i) (hB : ∀ i, B i = B' i) : pc n A B j = pc n A' B' j := by
  unfold pc
  apply xs_congr
  intro i _
  rw [hA, hB]
theorem mulP_congr (a b a' b' : List Nat) (ha : ∀ i, co a i = co a' i) (hb : ∀ i, co b i = co b' i) (j : Nat) : co (mulP a b) j = co (mulP a' b') j := by
  rw [co_mulP_of a b (max a.length a'.length) j (by omega), co_mulP_of a' b' (max a.length a'.length) j (by omega)]
  exact pc_congr _ _ ha hb
theorem mulP_add_left (a c b : List Nat) (ha : Sm a) (hc : Sm c) (hb : Sm b) (j : Nat) : co (mulP (addP a c) b) j = co (mulP a b) j ^^^ co (mulP c b) j := by
  rw [co_mulP_of (addP a c) b (max a.length c.length) j (by rw [addP_len]; omega), co_mulP_of a b (max a.length c.length) j (by omega), co_mulP_of c b (max a.length c.length) j (by omega)]
  rw [← pc_add_left _ _ _ _ _ ha hc hb]
  exact pc_congr _ _ (co_addP a c) (fun _ => rfl)
theorem mulP_add_right (a b c : List Nat) (ha : Sm a) (hb : Sm b) (hc : Sm c) (j : Nat) : co (mulP a (addP b c)) j = co (mulP a b) j ^^^ co (mulP a c) j := by
  rw [co_mulP, co_mulP, co_mulP, ← pc_add_right _ _ _ _ _ ha hb hc]
  exact pc_congr _ _ (fun _ => rfl) (co_addP b c)
theorem xs_single (f : Nat → Nat) (d : Nat) : ∀ n, d < n → (∀ i, i < n → i ≠ d → f i = 0) → xs n f = f d
  | 0, h, _ => by omega
  | n + 1, h, hz => by
    rw [xs]
    by_cases e : d = n
    · subst e; rw [xs_zero d (fun i hi => hz i (by omega) (by omega)), Nat.zero_xor]
    · rw [xs_single f d n (by omega) (fun i hi => hz i (by omega)), hz n (by omega) (fun h => e h.symm), Nat.xor_zero]
theorem mulP_top (a b : List Nat) (da db : Nat) (ha : ∀ i, da < i → co a i = 0) (hb : ∀ i, db < i → co b i = 0) : co (mulP a b) (da + db) = mul (co a da) (co b db) := by
  rw [co_mulP_of a b (max a.length (da + 1)) _ (by omega)]
  unfold pc
  rw [xs_single _ da _ (by omega), if_pos (by omega), Nat.add_sub_cancel_left]
  intro i _ hne
  rcases Nat.lt_or_gt_of_ne hne with h | h
  · rw [if_pos (by omega), hb _ (by omega), Gf.mul_zero]
  · rw [ha i h, Gf.zero_mul]; simp
theorem mulP_above (a b : List Nat) (da db : Nat) (ha : ∀ i, da < i → co a i = 0) (hb : ∀ i, db < i → co b i = 0) (j : Nat) (hj : da + db < j) : co (mulP a b) j = 0 := by
  rw [co_mulP]
  apply xs_zero
  intro i _
  by_cases h : da < i
  · rw [ha i h, Gf.zero_mul]; simp
  · by_cases k : i ≤ j
    · rw [if_pos k, hb _ (by omega), Gf.mul_zero]
    · rw [if_neg k]
/-- The greatest place of a coefficient that is not 0. -/
theorem top_of (l : List Nat) (h : trim l ≠ []) : co l ((trim l).length - 1) ≠ 0 ∧ ∀ i, (trim l).length - 1 < i → co l i = 0 :=
  ⟨trim_last l h, fun i hi => by rw [← co_trim, co_out _ i (by omega)]⟩
theorem trim_nil_iff (l : List Nat) : trim l = [] ↔ ∀ i, co l i = 0 :=
  ⟨fun h i => by rw [← co_trim, h, co_nil], fun h => trim_ext l [] (fun i => by rw [h i, co_nil])⟩
theorem trim_len_top (l : List Nat) (d : Nat) (h : co l d ≠ 0) (hz : ∀ i, d < i → co l i = 0) : (trim l).length = d + 1 := by
  have h1 := trim_le l (d + 1) (fun i hi => hz i (by omega))
  rcases Nat.lt_or_ge (trim l).length (d + 1) with hlt | hge
  · exact absurd (by rw [← co_trim, co_out _ d (by omega)]) h
  · omega
/-- Quotient and rest are told by what they make. -/
theorem div_one (q a b r : List Nat) (db : Nat) (hq : Sm q) (ha : Sm a) (hb : Sm b) (hb0 : co b db ≠ 0) (hbz : ∀ i, db < i → co b i = 0) (hr : ∀ i, db ≤ i → co r i = 0)
    (h : ∀ j, co (mulP q b) j ^^^ co r j = co (mulP a b) j) : (∀ i, co q i = co a i) ∧ ∀ i, co r i = 0 := by
  have hd : ∀ j, co (mulP (addP q a) b) j = co r j := fun j => by
    rw [mulP_add_left q a b hq ha hb, ← h j, ← Nat.xor_assoc, Nat.xor_self, Nat.zero_xor]
  have hz : ∀ i, co (addP q a) i = 0 := by
    refine (trim_nil_iff _).1 (Decidable.byContradiction fun hne => ?_)
    obtain ⟨t1, t2⟩ := top_of _ hne
    have := mulP_top (addP q a) b _ db t2 hbz
    rw [hd, hr _ (by omega)] at this
    exact Gf.mul_ne _ _ t1 hb0 this.symm
  have hqa : ∀ i, co q i = co a i := fun i => Gf.xor_zero_iff _ _ (by rw [← co_addP]; exact hz i)
  refine ⟨hqa, fun i => ?_⟩
  have e := h i
  rw [mulP_congr q b a b hqa (fun _ => rfl)] at e
  have := Gf.xor_zero_iff (co (mulP a b) i ^^^ co r i) (co (mulP a b) i) (by rw [e, Nat.xor_self])
  have k : co r i = co (mulP a b) i ^^^ (co (mulP a b) i ^^^ co r i) := by rw [← Nat.xor_assoc, Nat.xor_self, Nat.zero_xor]
  rw [k, this, Nat.xor_self]
theorem div_two (q q' b r r' : List Nat) (db : Nat) (hq : Sm q) (hq' : Sm q') (hb : Sm b) (hb0 : co b db ≠ 0) (hbz : ∀ i, db < i → co b i = 0) (hr : ∀ i, db ≤ i → co r i = 0) (hr' : ∀ i, db ≤ i → co r' i = 0)
    (h : ∀ j, co (mulP q b) j ^^^ co r j = co (mulP q' b) j ^^^ co r' j) : (∀ i, co q i = co q' i) ∧ ∀ i, co r i = co r' i := by
  have := div_one q q' b (addP r r') db hq hq' hb hb0 hbz (fun i hi => by rw [co_addP, hr i hi, hr' i hi]; rfl) (fun j => by
    rw [co_addP, ← Nat.xor_assoc, h j, Nat.xor_assoc, Nat.xor_self, Nat.xor_zero])
  exact ⟨this.1, fun i => Gf.xor_zero_iff _ _ (by rw [← co_addP]; exact this.2 i)⟩
end Pol

/-
  Small laws on worlds and on operations over whole arrays, of no program in particular: what is new, what stays, a load and a store of a whole array, a struct that is built of two arrays. Conditions: none.
-/
namespace Go.Proofs.Ytnfgokbopndmgaa
open Go.RowKit

theorem ret_int {k : IntKind} {a b : Int} (h : a = b) : Ending.returned (.int k a) = .returned (.int k b) := by rw [h]

theorem ret_two {k k' : IntKind} {a b c : Int} (h : a = b) : Ending.returned (.tuple #[.int k a, .int k' c]) = .returned (.tuple #[.int k b, .int k' c]) := by rw [h]

/-- A call that hands back v and changes nothing but how often the tape was asked. -/
def Hands (v : Value) (w : World) (e : Ending) (w' : World) : Prop := e = .returned v ∧ ∃ n, w' = w.drewN n

theorem nat_u8 {n : Int} (h : (Lit.int .u8 n).wf = true) : ∃ x : Nat, n = (x : Int) ∧ x < 256 := by
  have := bounds_u8 h
  exact ⟨n.toNat, by omega, by omega⟩
theorem nat_u32 {n : Int} (h : (Lit.int .u32 n).wf = true) : ∃ x : Nat, n = (x : Int) ∧ x < 4294967296 := by
  have := bounds_u32 h
  exact ⟨n.toNat, by omega, by omega⟩
theorem nat_u64 {n : Int} (h : (Lit.int .u64 n).wf = true) : ∃ x : Nat, n = (x : Int) ∧ x < 18446744073709551616 := by
  have := bounds_u64 h
  exact ⟨n.toNat, by omega, by omega⟩

/-- New blocks alone: nothing that was there has changed. -/
structure Ext (w w' : World) : Prop where
  below : Below w.heap.size w w'
theorem Ext.refl (w : World) : Ext w w := ⟨Below.refl _ _⟩
theorem Ext.size {w w' : World} (h : Ext w w') : w.heap.size ≤ w'.heap.size := h.below.size
theorem Ext.trans {a b c : World} (h : Ext a b) (k : Ext b c) : Ext a c := ⟨h.below.trans (k.below.mono h.size)⟩
theorem Ext.alloc {a w : World} (h : Ext a w) (o : Obj) : Ext a (w.alloc o) := ⟨h.below.alloc h.size o⟩
theorem Ext.drewN {a w : World} (h : Ext a w) (n : Nat) : Ext a (w.drewN n) := ⟨⟨h.below.os, h.below.tape, h.below.output, h.below.size, h.below.block⟩⟩
theorem Ext.drew {a w : World} (h : Ext a w) : Ext a w.drew := h.drewN 1
theorem Ext.setCell {a w : World} (h : Ext a w) {p : Addr} (hp : a.heap.size ≤ p.block) (v : Value) : Ext a (w.setCell p v) := ⟨h.below.setCell hp v⟩
theorem Ext.setRow {a w : World} (h : Ext a w) {g : Nat} (hg : a.heap.size ≤ g) (c : Array Value) : Ext a (w.setRow g c) :=
  ⟨h.below.trans ⟨rfl, rfl, rfl, by simp, fun k hk => setRow_other w g k c (by omega)⟩⟩
/-- Behind a law that ends in 'grownBy': what was written is new. -/
theorem Ext.more {a w w' : World} {row : Option Nat} (h : Ext a w) (hg : w.grownBy w' row) (hr : ∀ k, row = some k → a.heap.size ≤ k) : Ext a w' := ⟨h.below.grown hg h.size hr⟩

/-- The law answers true; nothing that was there has changed. -/
def Holds (w : World) (e : Ending) (w' : World) : Prop := e = .returned (.bool true) ∧ Ext w w'

theorem quiet_same {P : Program} {f : FuncId} {args : Array Value} {w : World} {n : Nat} {v : Value}
    (h : Calls P f args (w.drewN n) fun e w' => e = .returned v ∧ w.drewN n = w') : Calls P f args (w.drewN n) fun e w'' => e = .returned v ∧ ∃ m, w'' = w.drewN m :=
  h.mono fun _ _ ⟨he, hm⟩ => ⟨he, n, hm.symm⟩
theorem quiet_hands {P : Program} {f : FuncId} {args : Array Value} {w : World} {n : Nat} {v : Value}
    (h : Calls P f args (w.drewN n) (Hands v (w.drewN n))) : Calls P f args (w.drewN n) fun e w'' => e = .returned v ∧ ∃ m, w'' = w.drewN m :=
  h.mono fun _ _ ⟨he, m, hm⟩ => ⟨he, n + m, by rw [hm, World.drewN_drewN]⟩

section
variable {P : Program} {ops : Array Oper} {C : World → Prop} {Q : Act → Prop}
theorem wpQuiet_load {o : Oper} {rest : List Oper} {a : Act} (hgd : o.guard = none) (ty : TypeId) (x : Operand) (ho : o.op = .load ty x) (v : Value)
    (hrun : ∀ w, C w → (Instr.loadAt ty (a.eval x)).run P w = .ok v w) (h : wpQuiet P ops C Q rest (a.put o.dst v)) : wpQuiet P ops C Q (o :: rest) a := by
  unfold wpQuiet
  rw [if_pos (by simp [Region.wanted, hgd])]
  refine ⟨v, fun w hw => ?_, h⟩
  unfold Oper.quietAt
  simp only [execOp, ho, Sem.run_bind, hrun w hw, Result.andThen, Sem.run_pure]
  exact ⟨rfl, rfl⟩
theorem wpQuiet_store {o : Oper} {rest : List Oper} {a : Act} (hgd : o.guard = none) (ty : TypeId) (x y : Operand) (ho : o.op = .store ty x y)
    (hrun : ∀ w, C w → (Instr.storeAt ty (a.eval x) (a.eval y)).run P w = .ok () w) (h : wpQuiet P ops C Q rest (a.put o.dst undef)) : wpQuiet P ops C Q (o :: rest) a := by
  unfold wpQuiet
  rw [if_pos (by simp [Region.wanted, hgd])]
  refine ⟨undef, fun w hw => ?_, h⟩
  unfold Oper.quietAt
  simp only [execOp, ho, Sem.run_bind, hrun w hw, Result.andThen, Sem.run_pure]
  exact ⟨rfl, rfl⟩
theorem setRow_same (w : World) (b : Nat) (c : Array Value) (t : TypeId) (hg : w.heap[b]? = some (.cells c t (0, 0))) : w.setRow b c = w := by
  cases w with
  | _ =>
    simp only [World.setRow] at hg ⊢
    congr 1
    apply Array.ext_getElem?
    intro i
    rw [Array.getElem?_modify]
    split
    · rename_i e; subst e; rw [hg]; rfl
    · rfl
theorem run_store_back (w : World) (b : Nat) (t : TypeId) (c : Array Value) (hg : w.heap[b]? = some (.cells c t (0, 0))) (hi : (P.info? t).map (·.size) = some c.size) (h1 : c.all (·.oneCell') = true) :
    (Instr.storeAt t (.pointer (some ⟨b, 0, none⟩)) (.agg c)).run P w = .ok () w := by
  simp only [Instr.storeAt, Instr.sureAddr, Sem.run_bind, Sem.run_pure, Result.andThen]
  rw [run_storeVar_row w b t t c c hg hi rfl h1, setRow_same w b c t hg]
theorem run_load_all (w : World) (b : Nat) (t : TypeId) (c : Array Value) (n : Nat) (e : TypeId) (hu : P.underlying t = some (.array n e)) (hg : w.heap[b]? = some (.cells c t (0, 0))) (hi : (P.info? t).map (·.size) = some c.size) :
    (Instr.loadAt t (.pointer (some ⟨b, 0, none⟩))).run P w = .ok (.agg c) w := by
  simp only [Instr.loadAt, Instr.sureAddr, Sem.run_bind, Sem.run_pure, Result.andThen]
  exact run_loadVar_row w b t t c (0, 0) _ hg hu rfl hi
theorem results_cell_cell {fn : Func} {p u : Tmp} {ty tz : TypeId} (h : fn.results = #[.cell p ty, .cell u tz]) (tmps : Array Value) (P : Program) (w : World) :
    (results fn tmps).run P w =
      ((asAddr (tmps.getD p undef)).run P w).andThen fun a w₁ => ((loadVar ty a).run P w₁).andThen fun v w₂ =>
        ((asAddr (tmps.getD u undef)).run P w₂).andThen fun b w₃ => ((loadVar tz b).run P w₃).andThen fun z w₄ => .ok (.tuple #[v, z]) w₄ := by
  simp only [results, h]
  simp [Sem.run_bind, Result.andThen]
end

/-! ### A struct that is built of two arrays -/
theorem fold_at (off : Nat) : ∀ (l : List Value) (k : Nat) (base : Array Value) (i : Nat),
    ((l.zipIdx k).foldl (fun cs x => cs.setIfInBounds (off + x.2) x.1) base)[i]? = if off + k ≤ i ∧ i < off + k + l.length ∧ i < base.size then l[i - (off + k)]? else base[i]?
  | [], k, base, i => by
    rw [if_neg (by simp; omega)]; rfl
  | c :: l, k, base, i => by
    simp only [List.zipIdx_cons, List.foldl_cons]
    rw [fold_at off l (k + 1) (base.setIfInBounds (off + k) c) i]
    simp only [Array.size_setIfInBounds, List.length_cons, Array.getElem?_setIfInBounds]
    by_cases h1 : off + k = i
    · subst h1
      rw [if_neg (by omega), if_pos rfl]
      by_cases h2 : off + k < base.size
      · rw [if_pos h2, if_pos ⟨Nat.le_refl _, by omega, h2⟩]; simp
      · rw [if_neg h2, if_neg (by omega)]
        rw [Array.getElem?_eq_none (by omega)]
    · rw [if_neg h1]
      by_cases h2 : off + (k + 1) ≤ i ∧ i < off + (k + 1) + l.length ∧ i < base.size
      · rw [if_pos h2, if_pos (by omega)]
        rw [show i - (off + k) = (i - (off + (k + 1))) + 1 from by omega, List.getElem?_cons_succ]
      · rw [if_neg h2, if_neg (by omega)]

theorem fold_size (off : Nat) : ∀ (l : List (Value × Nat)) (base : Array Value), (l.foldl (fun cs x => cs.setIfInBounds (off + x.2) x.1) base).size = base.size
  | [], _ => rfl
  | c :: l, base => by rw [List.foldl_cons, fold_size off l]; simp

def putIn (off : Nat) (p base : Array Value) : Array Value := p.zipIdx.foldl (fun cs x => cs.setIfInBounds (off + x.2) x.1) base
theorem putIn_at (off : Nat) (p base : Array Value) (i : Nat) : (putIn off p base)[i]? = if off ≤ i ∧ i < off + p.size ∧ i < base.size then p[i - off]? else base[i]? := by
  have h := fold_at off p.toList 0 base i
  unfold putIn
  rw [← Array.foldl_toList, Array.toList_zipIdx, h]
  simp
theorem putIn_size (off : Nat) (p base : Array Value) : (putIn off p base).size = base.size := by
  unfold putIn
  rw [← Array.foldl_toList, fold_size]
theorem wpList_store_all {P : Program} {ops : Array Oper} {rest : List Oper} {op : Oper} {a : Act} {w : World} {Q : Exit → Act → World → Prop} (hgd : op.guard = none) (ty : TypeId) (x y : Operand) (ho : op.op = .store ty x y)
    (b : Nat) (c c' : Array Value) (hx : a.eval x = .pointer (some ⟨b, 0, none⟩)) (hy : a.eval y = .agg c')
    (hg : w.heap[b]? = some (.cells c ty (0, 0))) (hi : (P.info? ty).map (·.size) = some c'.size) (hc : c.size = c'.size) (h1 : c'.all (·.oneCell') = true)
    (h : wpList P ops Q rest (a.put op.dst undef) (w.setRow b c')) : wpList P ops Q (op :: rest) a w :=
  wpList_plain hgd fun _ hK => by
    unfold Oper.wp execOp
    simp only [ho, hx, hy, Instr.storeAt, Instr.sureAddr, Sem.run_bind, Sem.run_pure, Result.andThen_ok, run_storeVar_row w b ty ty c c' hg hi hc h1]
    exact hK _ _ h

theorem wpList_build_of {P : Program} {ops : Array Oper} {rest : List Oper} {op : Oper} {a : Act} {w : World} {Q : Exit → Act → World → Prop} (hgd : op.guard = none) (t : TypeId) (parts : Array (Nat × Operand)) (ho : op.op = .build t parts)
    (vs : Array (Nat × Value)) (hv : (parts.map fun (i, x) => (i, a.eval x)) = vs) (F : Array Value) (hF : P.built t vs.toList = some F)
    (h : wpList P ops Q rest (a.put op.dst (.agg F)) w) : wpList P ops Q (op :: rest) a w :=
  wpList_plain hgd fun _ hK => by
    unfold Oper.wp execOp
    simp only [ho, hv, Sem.run_bind, run_build w t vs F hF, Result.andThen_ok, Sem.run_pure]
    exact hK _ _ h
theorem wpList_box_of {P : Program} {ops : Array Oper} {rest : List Oper} {op : Oper} {a : Act} {w : World} {Q : Exit → Act → World → Prop} (hgd : op.guard = none) (t : TypeId) (x : Operand) (ho : op.op = .box t x)
    (F : Array Value) (hx : a.eval x = .agg F)
    (h : wpList P ops Q rest (a.put op.dst (.pointer (some ⟨w.heap.size, 0, none⟩))) (w.alloc (.cells F t))) : wpList P ops Q (op :: rest) a w :=
  wpList_plain hgd fun _ hK => by
    have hr : (Instr.box t (.agg F)).run P w = .ok (.pointer (some ⟨w.heap.size, 0, none⟩)) (w.alloc (.cells F t)) := by
      simp [Instr.box, newVar, Value.cells, go_sem]
    unfold Oper.wp execOp
    simp only [ho, hx, Sem.run_bind, hr, Result.andThen_ok, Sem.run_pure]
    exact hK _ _ h

end Go.Proofs.Ytnfgokbopndmgaa

/-
  Slices of bytes that read as a list: what it means, and that it stays while only new blocks are laid. Conditions: none.
-/
namespace Go.Proofs.Ytnfgokbopndmgaa
open Go.RowKit
open Pol (co Sm)

/-- From address A on lie the bytes l. -/
def Rd (w : World) (A : Option Addr) (l : List Nat) : Prop :=
  Sm l ∧ ∀ i, i < l.length → ∃ b o, A = some ⟨b, o, none⟩ ∧ w.cell? ⟨b, o + i, none⟩ = some (.int .u8 ((co l i : Nat) : Int))
theorem Rd.ext {w w' : World} {A : Option Addr} {l : List Nat} (h : Rd w A l) (hx : Ext w w') : Rd w' A l :=
  ⟨h.1, fun i hi => by
    obtain ⟨b, o, e, hc⟩ := h.2 i hi
    exact ⟨b, o, e, (hx.below.cell (p := ⟨b, o + i, none⟩) (block_lt_of_cell hc)).trans hc⟩⟩
theorem Rd.drewN {w : World} {A : Option Addr} {l : List Nat} (h : Rd w A l) (n : Nat) : Rd (w.drewN n) A l := h
theorem Rd.nil (w : World) (A : Option Addr) : Rd w A [] := ⟨Sm.nil, fun i hi => absurd hi (by simp)⟩
theorem Rd.addr {w : World} {A : Option Addr} {l : List Nat} (h : Rd w A l) (hl : 0 < l.length) : ∃ b o, A = some ⟨b, o, none⟩ ∧ ∀ i, i < l.length → w.cell? ⟨b, o + i, none⟩ = some (.int .u8 ((co l i : Nat) : Int)) := by
  obtain ⟨b, o, rfl, _⟩ := h.2 0 hl
  refine ⟨b, o, rfl, fun i hi => ?_⟩
  obtain ⟨b', o', e, hc⟩ := h.2 i hi
  injection e with e
  injection e with e1 e2
  subst e1; subst e2
  exact hc

/-- A call that hands back v; all else is as it was. -/
def Tells (v : Value) (w : World) (e : Ending) (w' : World) : Prop := e = .returned v ∧ Ext w w'
theorem Hands.tells {v : Value} {w : World} {e : Ending} {w' : World} (h : Hands v w e w') : Tells v w e w' := by
  obtain ⟨he, n, rfl⟩ := h
  exact ⟨he, (Ext.refl _).drewN n⟩
end Go.Proofs.Ytnfgokbopndmgaa

/-
  What append and make do with slices of bytes of a call's own, in terms of the lists that they read as. Conditions: the lengths add up to no more than 2^40.
-/
namespace Go.Proofs.Ytnfgokbopndmgaa
open Go.RowKit
open Pol (co Sm)

theorem u8_info : (Try.prog.info? 5).map (fun i => (i.zero, i.size, i.bytes)) = some (some (.int .u8 0), 1, 1) := by kernel_rfl
/-- Bytes as values. -/
def bv (l : List Nat) : List Value := l.map fun x : Nat => Value.int .u8 (x : Int)
theorem bv_len (l : List Nat) : (bv l).length = l.length := by simp [bv]
theorem bv_at (l : List Nat) (i : Nat) (h : i < l.length) : (bv l)[i]? = some (.int .u8 ((co l i : Nat) : Int)) := by
  simp [bv, co, List.getElem?_eq_getElem h]
theorem bv_one (l : List Nat) : ∀ u ∈ bv l, u.oneCell' = true := by
  intro u hu
  obtain ⟨x, _, rfl⟩ := List.mem_map.1 hu
  rfl
theorem bv_append (l m : List Nat) : bv (l ++ m) = bv l ++ bv m := by simp [bv]
/-- A slice of the call's own, of the bytes l. -/
def Mine (w : World) (base : Nat) (v : Value) (l : List Nat) : Prop := w.ownsRow base 5 1 v l.length (bv l)
theorem Mine.slice {w : World} {base : Nat} {v : Value} {l : List Nat} (h : Mine w base v l) (hs : Sm l) : ∃ B c, v = .slice B l.length c ∧ l.length ≤ c ∧ Rd w B l := by
  rcases h.2 with ⟨rfl, hn⟩ | ⟨g, cap, cur, rfl, _, hg, hnc, _, _, htake⟩
  · have : l = [] := List.eq_nil_of_length_eq_zero hn
    subst this
    exact ⟨none, 0, rfl, Nat.le_refl _, Rd.nil _ _⟩
  · refine ⟨_, cap, rfl, hnc, hs, fun i hi => ⟨g, 0, rfl, ?_⟩⟩
    rw [Nat.zero_add, cell_of_row w g i cur _ _ hg, ← bv_at l i hi, ← htake, List.getElem?_take, if_pos (by omega)]
    simp
theorem addr_add (b o j : Nat) : (⟨b, o, none⟩ : Addr).add j = ⟨b, o + j, none⟩ := Addr.add_mid b o j

set_option maxRecDepth 100000 in
theorem run_append_rd (w : World) (base : Nat) (ty : TypeId) (v : Value) (l m : List Nat) (hown : Mine w base v l) (A : Option Addr) (c : Nat) (hr : Rd w A m)
    (hlen : l.length + m.length ≤ 140737488355328) (hbase : base ≤ w.heap.size) :
    ∃ v' w', (Builtin.append_ #[23, 23] ty #[v, .slice A m.length c]).run Try.prog w = .ok v' w' ∧ Mine w' base v' (l ++ m) ∧ w.grownBy w' v.ownBlock ∧ (v'.ownBlock = v.ownBlock ∨ v'.ownBlock = some w.heap.size) := by
  obtain ⟨i0, hi, hz0, hz1, hz2⟩ := info_parts u8_info
  cases A with
  | none =>
    have hm : m = [] := by
      rcases Nat.eq_zero_or_pos m.length with h | h
      · exact List.eq_nil_of_length_eq_zero h
      · obtain ⟨_, _, e, _⟩ := hr.2 0 h; cases e
    subst hm
    refine ⟨v, w, ?_, by simpa using hown, ⟨rfl, rfl, rfl, Nat.le_refl _, fun _ _ _ => rfl⟩, .inl rfl⟩
    rcases hown.2 with ⟨rfl, _⟩ | ⟨g, cap, cur, rfl, _, _, hnc, _⟩
    · simp [Builtin.append_, run_underlying Try.underlying23, sizeOf, typeInfo, hi, Builtin.lenOf, Builtin.firstCells]
    · simp [Builtin.append_, run_underlying Try.underlying23, sizeOf, typeInfo, hi, Builtin.lenOf, Builtin.firstCells, hnc, storeCells]
  | some a =>
    have hcells : ∀ j u, (bv m)[j]? = some u → w.cell? (a.add j) = some u := by
      intro j u hu
      have hj : j < m.length := by
        have := (List.getElem?_eq_some_iff.1 hu).1
        rwa [bv_len] at this
      obtain ⟨b, o, e, hc⟩ := hr.2 j hj
      injection e with e
      subst e
      rw [addr_add, hc, ← bv_at m j hj, hu]
    obtain ⟨v', w', h1, h2, h3, _, h5⟩ := run_append_own_at (P := Try.prog) w base 23 ty 5 i0 (.int .u8 0) 1 1 Try.underlying23 hi hz0 hz1 hz2 rfl (by omega) v l.length (bv l) hown a m.length c (bv m) (by rw [bv_len, Nat.mul_one]) hcells (bv_one m)
      (by unfold maxLen; omega) (by omega) hbase
    exact ⟨v', w', h1, by unfold Mine; rw [List.length_append, bv_append]; exact h2, h3, h5⟩

/-- At the operation, for the walk. -/
theorem wpList_append_rd {ops : Array Oper} {rest : List Oper} {o : Oper} {a : Act} {w : World} {Q : Exit → Act → World → Prop} (hgd : o.guard = none) (s x : Operand)
    (ho : o.op = .call { callee := .builtin .append, args := #[s, x], argTypes := #[23, 23] })
    (base : Nat) (v : Value) (l m : List Nat) (hs : a.eval s = v) (hown : Mine w base v l) (A : Option Addr) (n c : Nat) (hx : a.eval x = .slice A n c) (hn : m.length = n) (hr : Rd w A m)
    (hlen : l.length + m.length ≤ 140737488355328) (hbase : base ≤ w.heap.size)
    (h : ∀ v' w', Mine w' base v' (l ++ m) → w.grownBy w' v.ownBlock → (v'.ownBlock = v.ownBlock ∨ v'.ownBlock = some w.heap.size) → wpList Try.prog ops Q rest (a.put o.dst v') w') :
    wpList Try.prog ops Q (o :: rest) a w := by
  subst hn
  refine wpList_plain hgd fun K hK => ?_
  obtain ⟨v', w', hrun, h2, h3, h4⟩ := run_append_rd w base o.type v l m hown A c hr hlen hbase
  unfold Oper.wp execOp
  simp only [ho, resolve, invoke, builtin, Sem.run_bind, Sem.run_pure, Result.andThen_ok, List.map_toArray, List.map_cons, List.map_nil, hs, hx, hrun]
  exact hK _ _ (h v' w' h2 h3 h4)

/-- A call that hands back a slice that reads as l; all else is as it was. -/
def Gives (l : List Nat) (w : World) (e : Ending) (w' : World) : Prop := ∃ B c, e = .returned (.slice B l.length c) ∧ l.length ≤ c ∧ Rd w' B l ∧ Ext w w'
theorem gives_of {w w' : World} {base : Nat} {v : Value} {l m : List Nat} (hm : Mine w' base v l) (hl : l = m) (hs : Sm m) (hx : Ext w w') : Gives m w (.returned v) w' := by
  subst hl
  obtain ⟨B, c, rfl, hc, hr⟩ := hm.slice hs
  exact ⟨B, c, rfl, hc, hr, hx⟩
theorem Rd.take {w : World} {A : Option Addr} {l : List Nat} (h : Rd w A l) (k : Nat) : Rd w A (l.take k) := by
  refine ⟨Pol.co_lt_of fun x hx => h.1.mem x (List.mem_of_mem_take hx), fun i hi => ?_⟩
  have hk : i < k ∧ i < l.length := by rw [List.length_take] at hi; omega
  obtain ⟨b, o, e, hc⟩ := h.2 i hk.2
  refine ⟨b, o, e, ?_⟩
  rw [hc]
  unfold co
  rw [List.getElem?_take, if_pos hk.1]
theorem mine_empty (w : World) : Mine (w.alloc (.cells #[] 5)) w.heap.size (.slice (some ⟨w.heap.size, 0, none⟩) 0 0) [] := World.ownsRow_lit w #[] 0 (Nat.le_refl _) (Nat.zero_le _) rfl
theorem rd_lit (w : World) (l : List Nat) (h : Sm l) : Rd (w.alloc (.cells (bv l).toArray 5)) (some ⟨w.heap.size, 0, none⟩) l :=
  ⟨h, fun i hi => ⟨w.heap.size, 0, rfl, by
    rw [cell_of_row _ _ _ _ _ _ (heap_alloc_new w _), Nat.zero_add]
    simpa using bv_at l i hi⟩⟩
theorem rd_lit_next (w : World) (o : Obj) (l : List Nat) (h : Sm l) : Rd ((w.alloc o).alloc (.cells (bv l).toArray 5)) (some ⟨w.heap.size + 1, 0, none⟩) l := by
  have := rd_lit (w.alloc o) l h
  rwa [show (w.alloc o).heap.size = w.heap.size + 1 from by simp] at this
theorem rd_one (w : World) (p : Nat) (hp : p < 256) : Rd (w.alloc (.cells #[.int .u8 (p : Int)] 5)) (some ⟨w.heap.size, 0, none⟩) [p] :=
  ⟨Sm.cons hp Sm.nil, fun i hi => ⟨w.heap.size, 0, rfl, by
    rw [cell_of_row _ _ _ _ _ _ (heap_alloc_new w _)]
    match i, hi with
    | 0, _ => simp [co]⟩⟩
theorem rd_two (w : World) (p q : Nat) (hp : p < 256) (hq : q < 256) : Rd (w.alloc (.cells #[.int .u8 (p : Int), .int .u8 (q : Int)] 5)) (some ⟨w.heap.size, 0, none⟩) [p, q] :=
  ⟨Sm.cons hp (Sm.cons hq Sm.nil), fun i hi => ⟨w.heap.size, 0, rfl, by
    rw [cell_of_row _ _ _ _ _ _ (heap_alloc_new w _)]
    match i, hi with
    | 0, _ => simp [co]
    | 1, _ => simp [co]⟩⟩
/-- A slice value that reads as l. -/
def Sl (w : World) (v : Value) (l : List Nat) : Prop := ∃ B c, v = .slice B l.length c ∧ l.length ≤ c ∧ Rd w B l
theorem Sl.ext {w w' : World} {v : Value} {l : List Nat} (h : Sl w v l) (hx : Ext w w') : Sl w' v l := by
  obtain ⟨B, c, rfl, hc, hr⟩ := h
  exact ⟨B, c, rfl, hc, hr.ext hx⟩
end Go.Proofs.Ytnfgokbopndmgaa

/-
  Worlds that differ in some blocks alone. Conditions: none; no function is named here.
-/
namespace Go.Proofs.Ytnfgokbopndmgaa
open Go.RowKit

/-- What was there is as it was, but for the blocks of X. -/
structure Only (X : Nat → Prop) (w w' : World) : Prop where
  os : w'.os = w.os
  tape : w'.tape = w.tape
  output : w'.output = w.output
  size : w.heap.size ≤ w'.heap.size
  block : ∀ k, k < w.heap.size → ¬ X k → w'.heap[k]? = w.heap[k]?
theorem Only.refl (X : Nat → Prop) (w : World) : Only X w w := ⟨rfl, rfl, rfl, Nat.le_refl _, fun _ _ _ => rfl⟩
theorem Only.trans {X : Nat → Prop} {a b c : World} (h : Only X a b) (k : Only X b c) : Only X a c :=
  ⟨k.os.trans h.os, k.tape.trans h.tape, k.output.trans h.output, Nat.le_trans h.size k.size, fun i hi hx => (k.block i (Nat.lt_of_lt_of_le hi h.size) hx).trans (h.block i hi hx)⟩
theorem Only.of_grown {X : Nat → Prop} {w w' : World} {row : Option Nat} (h : w.grownBy w' row) (hr : ∀ k, row = some k → X k) : Only X w w' :=
  ⟨h.os, h.tape, h.output, h.size, fun k hk hx => h.block k hk (fun e => hx (hr k e.symm))⟩
theorem Only.of_ext {X : Nat → Prop} {w w' : World} (h : Ext w w') : Only X w w' := ⟨h.below.os, h.below.tape, h.below.output, h.below.size, fun k hk _ => h.below.block k hk⟩
theorem Only.drewN {X : Nat → Prop} {a w : World} (h : Only X a w) (n : Nat) : Only X a (w.drewN n) := ⟨h.os, h.tape, h.output, h.size, h.block⟩
theorem Only.mono {X Y : Nat → Prop} {w w' : World} (h : Only X w w') (hxy : ∀ k, k < w.heap.size → X k → Y k) : Only Y w w' := ⟨h.os, h.tape, h.output, h.size, fun k hk hy => h.block k hk (fun hx => hy (hxy k hk hx))⟩
theorem Only.ext {X : Nat → Prop} {a w w' : World} (h : Only X w w') (hx : Ext a w) (hX : ∀ k, X k → a.heap.size ≤ k) : Ext a w' :=
  ⟨hx.below.trans ⟨h.os, h.tape, h.output, h.size, fun k hk => h.block k (Nat.lt_of_lt_of_le hk hx.size) (fun hk' => by have := hX k hk'; omega)⟩⟩
theorem Only.cell {X : Nat → Prop} {w w' : World} (h : Only X w w') {b o : Nat} {v : Value} (hc : w.cell? ⟨b, o, none⟩ = some v) (hx : ¬ X b) : w'.cell? ⟨b, o, none⟩ = some v :=
  (World.cell?_of_block (a := ⟨b, o, none⟩) (h.block b (block_lt_of_cell hc) hx)).trans hc
theorem Only.frozen {X : Nat → Prop} {w w' : World} (h : Only X w w') {b o : Nat} (hb : b < w.heap.size) (hx : ¬ X b) : w'.frozen? ⟨b, o, none⟩ = w.frozen? ⟨b, o, none⟩ :=
  World.frozen?_of_block (a := ⟨b, o, none⟩) (h.block b hb hx)
end Go.Proofs.Ytnfgokbopndmgaa

/-
  Cells and blocks stay where worlds only grow. Conditions: none; no function is named here.
-/
namespace Go.Proofs.Ytnfgokbopndmgaa
open Go.RowKit

theorem Ext.at {w w' : World} (h : Ext w w') {b o : Nat} {v : Value} (hc : w.cell? ⟨b, o, none⟩ = some v) : w'.cell? ⟨b, o, none⟩ = some v :=
  (h.below.cell (p := ⟨b, o, none⟩) (block_lt_of_cell hc)).trans hc
theorem Ext.row {w w' : World} (h : Ext w w') {b : Nat} {x : Obj} (hc : w.heap[b]? = some x) : w'.heap[b]? = some x :=
  (h.below.block b (Array.getElem?_eq_some_iff.1 hc).1).trans hc
theorem row_lt {w : World} {b : Nat} {x : Obj} (hc : w.heap[b]? = some x) : b < w.heap.size := (Array.getElem?_eq_some_iff.1 hc).1
theorem Only.row {X : Nat → Prop} {w w' : World} (h : Only X w w') {b : Nat} {x : Obj} (hc : w.heap[b]? = some x) (hx : ¬ X b) : w'.heap[b]? = some x := (h.block b (row_lt hc) hx).trans hc
theorem grown_block (w : World) (g : Nat) (V : Array Value) : w.grownBy (w.setRow g V) (some g) :=
  ⟨rfl, rfl, rfl, by simp [World.setRow], fun k _ hne => setRow_other w g k V (fun e => hne (by rw [e]))⟩
end Go.Proofs.Ytnfgokbopndmgaa

/-
  Slices of uint64 that read as a list; of a call's own: appended to, written. Conditions: the lengths add up to no more than 2^40.
-/
namespace Go.Proofs.Ytnfgokbopndmgaa
open Go.RowKit
open Pol (co)

theorem u64_info : (Try.prog.info? 22).map (fun i => (i.zero, i.size, i.bytes)) = some (some (.int .u64 0), 1, 8) := by kernel_rfl
def uv (l : List Nat) : List Value := l.map fun x : Nat => Value.int .u64 (x : Int)
theorem uv_len (l : List Nat) : (uv l).length = l.length := by simp [uv]
theorem uv_at (l : List Nat) (i : Nat) (h : i < l.length) : (uv l)[i]? = some (.int .u64 ((co l i : Nat) : Int)) := by simp [uv, co, List.getElem?_eq_getElem h]
theorem uv_one (l : List Nat) : ∀ u ∈ uv l, u.oneCell' = true := by
  intro u hu
  obtain ⟨x, _, rfl⟩ := List.mem_map.1 hu
  rfl
theorem uv_append (l m : List Nat) : uv (l ++ m) = uv l ++ uv m := by simp [uv]
/-- Each is a number of 64 bits. -/
def U64 (l : List Nat) : Prop := ∀ i, co l i < 18446744073709551616
/-- From address A on lie the numbers l. -/
def URd (w : World) (A : Option Addr) (l : List Nat) : Prop := U64 l ∧ ∀ i, i < l.length → ∃ b o, A = some ⟨b, o, none⟩ ∧ w.cell? ⟨b, o + i, none⟩ = some (.int .u64 ((co l i : Nat) : Int))
theorem URd.ext {w w' : World} {A : Option Addr} {l : List Nat} (h : URd w A l) (hx : Ext w w') : URd w' A l := ⟨h.1, fun i hi => by
  obtain ⟨b, o, e, hc⟩ := h.2 i hi
  exact ⟨b, o, e, hx.at hc⟩⟩
theorem URd.nil (w : World) (A : Option Addr) : URd w A [] := ⟨fun i => by unfold co; simp, fun i hi => absurd hi (by simp)⟩
/-- A slice of numbers of the call's own. -/
def UMine (w : World) (base : Nat) (v : Value) (l : List Nat) : Prop := w.ownsRow base 22 1 v l.length (uv l)
theorem UMine.nil (w : World) (base : Nat) : UMine w base (.slice none 0 0) [] := World.ownsRow_nil w base _ _
theorem umine_empty (w : World) : UMine (w.alloc (.cells #[] 22)) w.heap.size (.slice (some ⟨w.heap.size, 0, none⟩) 0 0) [] := World.ownsRow_lit w #[] 0 (Nat.le_refl _) (Nat.zero_le _) rfl
theorem UMine.slice {w : World} {base : Nat} {v : Value} {l : List Nat} (h : UMine w base v l) (hu : U64 l) : ∃ B c, v = .slice B l.length c ∧ l.length ≤ c ∧ URd w B l := by
  rcases h.2 with ⟨rfl, hn⟩ | ⟨g, cap, cur, rfl, _, hg, hnc, _, _, htake⟩
  · have : l = [] := List.eq_nil_of_length_eq_zero hn
    subst this
    exact ⟨none, 0, rfl, Nat.le_refl _, URd.nil _ _⟩
  · refine ⟨_, cap, rfl, hnc, hu, fun i hi => ⟨g, 0, rfl, ?_⟩⟩
    rw [Nat.zero_add, cell_of_row w g i cur _ _ hg, ← uv_at l i hi, ← htake, List.getElem?_take, if_pos (by omega)]
    simp
theorem UMine.ext {w w' : World} {base : Nat} {v : Value} {l : List Nat} (h : UMine w base v l) (hx : Ext w w') : UMine w' base v l :=
  World.ownsRow.kept h (row := none) ⟨hx.below.os, hx.below.tape, hx.below.output, hx.below.size, fun k hk _ => hx.below.block k hk⟩ (by
    cases hb : v.ownBlock with
    | none => exact .inl rfl
    | some k => exact .inr (by simp))
theorem UMine.keep {w w' : World} {base : Nat} {v : Value} {l : List Nat} {row : Option Nat} (h : UMine w base v l) (hg : w.grownBy w' row) (hne : ∀ k, v.ownBlock = some k → some k ≠ row) : UMine w' base v l :=
  World.ownsRow.kept h hg (by
    cases hb : v.ownBlock with
    | none => exact .inl rfl
    | some k => exact .inr (hne k hb))
theorem UMine.block {w : World} {base : Nat} {v : Value} {l : List Nat} (h : UMine w base v l) : ∀ k, v.ownBlock = some k → base ≤ k ∧ k < w.heap.size := fun k hk => World.ownsRow.lt h k hk
theorem UMine.down {w : World} {base base' : Nat} {v : Value} {l : List Nat} (h : UMine w base v l) (hb : base' ≤ base) : UMine w base' v l :=
  ⟨h.1, h.2.imp id fun ⟨g, cap, cur, h1, h2, h3⟩ => ⟨g, cap, cur, h1, Nat.le_trans hb h2, h3⟩⟩
/-- A number is put into numbers of a call's own. -/
theorem UMine.put {w : World} {base g n c i x : Nat} {l : List Nat} (h : UMine w base (.slice (some ⟨g, 0, none⟩) n c) l) : UMine (w.setCell ⟨g, i, none⟩ (.int .u64 (x : Int))) base (.slice (some ⟨g, 0, none⟩) n c) (l.set i x) := by
  rcases h.2 with ⟨e, _⟩ | ⟨g', cap, cur, e, hb, hg, hnc, hcm, hcs, ht⟩
  · cases e
  · injection e with e1 e2 e3
    injection e1 with e1
    injection e1 with e1
    subst e1; subst e3
    refine ⟨by rw [uv_len, List.length_set, Nat.mul_one], .inr ⟨g, c, cur.setIfInBounds i (.int .u64 (x : Int)), by rw [List.length_set, e2], hb, heap_setCell_same w g i cur _ _ hg, by rw [List.length_set]; exact hnc, hcm, by simpa using hcs, ?_⟩⟩
    rw [List.length_set, Array.toList_setIfInBounds, List.take_set, ht]
    unfold uv
    rw [List.map_set]
theorem UMine.spot {w : World} {base : Nat} {v : Value} {l : List Nat} (h : UMine w base v l) {i : Nat} (hi : i < l.length) : ∃ g n c, v = .slice (some ⟨g, 0, none⟩) n c ∧ base ≤ g ∧ w.cell? ⟨g, i, none⟩ = some (.int .u64 ((co l i : Nat) : Int)) ∧ w.frozen? ⟨g, i, none⟩ = false := by
  rcases h.2 with ⟨rfl, hn⟩ | ⟨g, cap, cur, rfl, hb, hg, hnc, _, _, htake⟩
  · omega
  · refine ⟨g, _, cap, rfl, hb, ?_, frozen_of_row w g i cur _ hg⟩
    rw [cell_of_row w g i cur _ _ hg, ← uv_at l i hi, ← htake, List.getElem?_take, if_pos (by omega)]
    simp
set_option maxRecDepth 100000 in
theorem run_append_u64 (w : World) (base : Nat) (ty : TypeId) (v : Value) (l m : List Nat) (hown : UMine w base v l) (A : Option Addr) (c : Nat) (hr : URd w A m)
    (hlen : l.length + m.length ≤ 1099511627776) (hbase : base ≤ w.heap.size) :
    ∃ v' w', (Builtin.append_ #[40, 40] ty #[v, .slice A m.length c]).run Try.prog w = .ok v' w' ∧ UMine w' base v' (l ++ m) ∧ w.grownBy w' v.ownBlock ∧ (v'.ownBlock = v.ownBlock ∨ v'.ownBlock = some w.heap.size) := by
  obtain ⟨i0, hi, hz0, hz1, hz2⟩ := info_parts u64_info
  cases A with
  | none =>
    have hm : m = [] := by
      rcases Nat.eq_zero_or_pos m.length with h | h
      · exact List.eq_nil_of_length_eq_zero h
      · obtain ⟨_, _, e, _⟩ := hr.2 0 h; cases e
    subst hm
    refine ⟨v, w, ?_, by simpa using hown, ⟨rfl, rfl, rfl, Nat.le_refl _, fun _ _ _ => rfl⟩, .inl rfl⟩
    rcases hown.2 with ⟨rfl, _⟩ | ⟨g, cap, cur, rfl, _, _, hnc, _⟩
    · simp [Builtin.append_, run_underlying Try.underlying40, sizeOf, typeInfo, hi, Builtin.lenOf, Builtin.firstCells]
    · simp [Builtin.append_, run_underlying Try.underlying40, sizeOf, typeInfo, hi, Builtin.lenOf, Builtin.firstCells, hnc, storeCells]
  | some a =>
    have hcells : ∀ j u, (uv m)[j]? = some u → w.cell? (a.add j) = some u := by
      intro j u hu
      have hj : j < m.length := by
        have := (List.getElem?_eq_some_iff.1 hu).1
        rwa [uv_len] at this
      obtain ⟨b, o, e, hc⟩ := hr.2 j hj
      injection e with e
      subst e
      rw [addr_add, hc, ← uv_at m j hj, hu]
    obtain ⟨v', w', h1, h2, h3, _, h5⟩ := run_append_own_at (P := Try.prog) w base 40 ty 22 i0 (.int .u64 0) 1 8 Try.underlying40 hi hz0 hz1 hz2 rfl (by omega) v l.length (uv l) hown a m.length c (uv m) (by rw [uv_len, Nat.mul_one]) hcells (uv_one m)
      (by unfold maxLen; omega) (by omega) hbase
    exact ⟨v', w', h1, by unfold UMine; rw [List.length_append, uv_append]; exact h2, h3, h5⟩
/-- At the operation, for the walk. -/
theorem wpList_append_u64 {ops : Array Oper} {rest : List Oper} {o : Oper} {a : Act} {w : World} {Q : Exit → Act → World → Prop} (hgd : o.guard = none) (s x : Operand)
    (ho : o.op = .call { callee := .builtin .append, args := #[s, x], argTypes := #[40, 40] })
    (base : Nat) (v : Value) (l m : List Nat) (hs : a.eval s = v) (hown : UMine w base v l) (A : Option Addr) (n c : Nat) (hx : a.eval x = .slice A n c) (hn : m.length = n) (hr : URd w A m)
    (hlen : l.length + m.length ≤ 1099511627776) (hbase : base ≤ w.heap.size)
    (h : ∀ v' w', UMine w' base v' (l ++ m) → w.grownBy w' v.ownBlock → (v'.ownBlock = v.ownBlock ∨ v'.ownBlock = some w.heap.size) → wpList Try.prog ops Q rest (a.put o.dst v') w') :
    wpList Try.prog ops Q (o :: rest) a w := by
  subst hn
  refine wpList_plain hgd fun K hK => ?_
  obtain ⟨v', w', hrun, h2, h3, h4⟩ := run_append_u64 w base o.type v l m hown A c hr hlen hbase
  unfold Oper.wp execOp
  simp only [ho, resolve, invoke, builtin, Sem.run_bind, Sem.run_pure, Result.andThen_ok, List.map_toArray, List.map_cons, List.map_nil, hs, hx, hrun]
  exact hK _ _ (h v' w' h2 h3 h4)
end Go.Proofs.Ytnfgokbopndmgaa

/-
  A ledger in plain numbers: what is held back, freed, paid, slashed, moved, turned; that the total stays. Conditions: none; no function is named here.
-/
namespace Go.Proofs.Ytnfgokbopndmgaa
open Pol (co)

/-- Of each account the balance, the nonce, the fees and the deposits that are held back; the treasury. -/
structure Lgr where
  b : List Nat
  n : List Nat
  f : List Nat
  d : List Nat
  t : Nat
theorem co_set13 (l : List Nat) (i j x : Nat) : co (l.set i x) j = if i = j ∧ i < l.length then x else co l j := by
  unfold co
  rw [List.getElem?_set]
  by_cases h : i = j
  · subst h
    by_cases h2 : i < l.length
    · simp [h2]
    · simp [h2]
  · simp [h]
theorem co_le_sum13 : ∀ (l : List Nat) (i : Nat), co l i ≤ l.sum
  | [], i => by unfold co; simp
  | x :: l, 0 => by unfold co; simp
  | x :: l, i + 1 => by
    have := co_le_sum13 l i
    unfold co at this ⊢
    simp at this ⊢
    omega
theorem sum_set13 : ∀ (l : List Nat) (i x : Nat), i < l.length → (l.set i x).sum + co l i = l.sum + x
  | [], i, x, h => by simp at h
  | y :: l, 0, x, _ => by unfold co; simp; omega
  | y :: l, i + 1, x, h => by
    have := sum_set13 l i x (by simpa using h)
    unfold co at this ⊢
    simp at this ⊢
    omega
theorem co_two_sum13 : ∀ (l : List Nat) (i j : Nat), i ≠ j → co l i + co l j ≤ l.sum
  | [], i, j, _ => by unfold co; simp
  | x :: l, 0, 0, h => absurd rfl h
  | x :: l, 0, j + 1, _ => by
    have := co_le_sum13 l j
    unfold co at this ⊢
    simp at this ⊢
    omega
  | x :: l, i + 1, 0, _ => by
    have := co_le_sum13 l i
    unfold co at this ⊢
    simp at this ⊢
    omega
  | x :: l, i + 1, j + 1, h => by
    have := co_two_sum13 l i j (fun e => h (by rw [e]))
    unfold co at this ⊢
    simp at this ⊢
    omega

/-- A ledger of m accounts whose total is M; what is held back in deposits is a number of whole ones. -/
structure Lgr.ok (s : Lgr) (m M : Nat) : Prop where
  lb : s.b.length = m
  ln : s.n.length = m
  lf : s.f.length = m
  ld : s.d.length = m
  sum : s.b.sum + s.f.sum + s.d.sum + s.t = M
  dep : ∀ i, co s.d i % 50 = 0
def Lgr.hold (s : Lgr) (i fee : Nat) : Nat × Lgr :=
  if co s.b i < 50 ∨ co s.b i - 50 < fee then (9, s) else (0, { s with b := s.b.set i (co s.b i - fee - 50), f := s.f.set i (co s.f i + fee), d := s.d.set i (co s.d i + 50) })
def Lgr.back (s : Lgr) (i fee : Nat) (u v : Bool) : Nat × Lgr :=
  if co s.f i < fee ∨ co s.d i = 0 then (9, s) else
    (0, { s with b := s.b.set i (co s.b i + (if u then fee else 0) + (if v then 50 else 0)), f := s.f.set i (co s.f i - fee), d := s.d.set i (co s.d i - 50), t := s.t + (if u then 0 else fee) + (if v then 0 else 50) })
def Lgr.move (s : Lgr) (i j x : Nat) : Nat × Lgr :=
  if co s.b i < x then (9, s) else (0, { s with b := (s.b.set i (co s.b i - x)).set j (co (s.b.set i (co s.b i - x)) j + x) })
def Lgr.turn (s : Lgr) (i x : Nat) : Nat × Lgr :=
  if co s.n i ≠ x then (11, s) else if x = 18446744073709551615 then (10, s) else (0, { s with n := s.n.set i (x + 1) })
theorem Lgr.hold_ok {s : Lgr} {m M i fee : Nat} (h : s.ok m M) (hi : i < m) : (s.hold i fee).2.ok m M := by
  unfold Lgr.hold
  split
  · exact h
  · rename_i hc
    have h1 := sum_set13 s.b i (co s.b i - fee - 50) (by rw [h.lb]; exact hi)
    have h2 := sum_set13 s.f i (co s.f i + fee) (by rw [h.lf]; exact hi)
    have h3 := sum_set13 s.d i (co s.d i + 50) (by rw [h.ld]; exact hi)
    have h4 := h.sum
    refine ⟨by simp [h.lb], h.ln, by simp [h.lf], by simp [h.ld], ?_, fun j => ?_⟩
    · show (s.b.set i _).sum + (s.f.set i _).sum + (s.d.set i _).sum + s.t = M
      omega
    · show co (s.d.set i _) j % 50 = 0
      rw [co_set13]
      have := h.dep i
      have := h.dep j
      split <;> omega
theorem Lgr.back_ok {s : Lgr} {m M i fee : Nat} {u v : Bool} (h : s.ok m M) (hi : i < m) : (s.back i fee u v).2.ok m M := by
  unfold Lgr.back
  split
  · exact h
  · rename_i hc
    have h0 := h.dep i
    have h1 := sum_set13 s.b i (co s.b i + (if u then fee else 0) + (if v then 50 else 0)) (by rw [h.lb]; exact hi)
    have h2 := sum_set13 s.f i (co s.f i - fee) (by rw [h.lf]; exact hi)
    have h3 := sum_set13 s.d i (co s.d i - 50) (by rw [h.ld]; exact hi)
    have h4 := h.sum
    refine ⟨by simp [h.lb], h.ln, by simp [h.lf], by simp [h.ld], ?_, fun j => ?_⟩
    · show (s.b.set i _).sum + (s.f.set i _).sum + (s.d.set i _).sum + (s.t + _ + _) = M
      cases u <;> cases v <;> simp at h1 ⊢ <;> omega
    · show co (s.d.set i _) j % 50 = 0
      rw [co_set13]
      have := h.dep j
      split <;> omega
theorem Lgr.move_ok {s : Lgr} {m M i j x : Nat} (h : s.ok m M) (hi : i < m) (hj : j < m) : (s.move i j x).2.ok m M := by
  unfold Lgr.move
  split
  · exact h
  · rename_i hc
    have h1 := sum_set13 s.b i (co s.b i - x) (by rw [h.lb]; exact hi)
    have h2 := sum_set13 (s.b.set i (co s.b i - x)) j (co (s.b.set i (co s.b i - x)) j + x) (by simp [h.lb]; exact hj)
    have h4 := h.sum
    refine ⟨by simp [h.lb], h.ln, h.lf, h.ld, ?_, h.dep⟩
    show ((s.b.set i _).set j _).sum + s.f.sum + s.d.sum + s.t = M
    omega
theorem Lgr.turn_ok {s : Lgr} {m M i x : Nat} (h : s.ok m M) : (s.turn i x).2.ok m M := by
  unfold Lgr.turn
  split
  · exact h
  · split
    · exact h
    · exact ⟨h.lb, by simp [h.ln], h.lf, h.ld, h.sum, h.dep⟩
/-- Each of its numbers is no more than the total. -/
theorem Lgr.ok.le {s : Lgr} {m M : Nat} (h : s.ok m M) (i : Nat) : co s.b i ≤ M ∧ co s.f i ≤ M ∧ co s.d i ≤ M ∧ s.t ≤ M := by
  have h1 := co_le_sum13 s.b i
  have h2 := co_le_sum13 s.f i
  have h3 := co_le_sum13 s.d i
  have h4 := h.sum
  omega
end Go.Proofs.Ytnfgokbopndmgaa

/-
  What the document's own Sum and Is of layer 13 do. Conditions: no more than 2^20 numbers, whose sum is one of 64 bits.
-/
namespace Go.Proofs.Ytnfgokbopndmgaa
open Go.RowKit
open Pol (co)

theorem take_sum13 (l : List Nat) (i : Nat) (h : i < l.length) : (l.take (i + 1)).sum = (l.take i).sum + co l i := by
  rw [List.take_succ_eq_append_getElem h, List.sum_append]
  unfold co
  rw [List.getElem?_eq_getElem h]
  simp
theorem take_sum_le13 (l : List Nat) (i : Nat) : (l.take i).sum ≤ l.sum := by
  have h := congrArg List.sum (List.take_append_drop i l)
  rw [List.sum_append] at h
  omega
theorem u64_of (z : Int) (m : Nat) (hz : z = (m : Int)) (h : m < 18446744073709551616) : Value.int .u64 (IntKind.u64.wrap z) = Value.int .u64 (m : Int) := by
  subst hz
  congr 1
  rw [IntKind.wrap_u64]
  omega
set_option maxHeartbeats 800000 in
theorem ref13_sum (l : List Nat) (A : Option Addr) (n c : Nat) (w : World) (hn : l.length = n) (hr : URd w A l) (hl : n ≤ 1048576) (hs : l.sum < 18446744073709551616) :
    Calls Try.prog 45 #[.slice A n c] w (fun e w' => e = .returned (.int .u64 ((l.sum : Nat) : Int)) ∧ w = w') := by
  have HR := Lib.hid hr
  have HN := Lib.hid hn
  have HS := Lib.hid hs
  have HT := Lib.hid (fun i (hi : i < l.length) => take_sum13 l i hi)
  have HTL := Lib.hid (fun i => take_sum_le13 l i)
  have HF := Lib.hid (show l.take n = l from by rw [← hn, List.take_length])
  clear hr hn hs
  go_enter Try.func45, Try.ntmps45
  go_wp2
  go_loopg [3, 7] n (fun g s3 s7 wx => ∃ i t : Nat, i + g = n ∧ (l.take i).sum = t ∧ s3 = .int .u64 (t : Int) ∧ s7 = .int .i64 (i : Int) ∧ w = wx)
  case atStart => exact ⟨0, 0, by omega, by simp, rfl, rfl, rfl⟩
  case round =>
    obtain ⟨i, t, hig, ht, rfl, rfl, rfl⟩ := hrel
    cases gk with
    | zero =>
      obtain rfl : i = n := by omega
      have HV := Lib.hid (show l.sum = t by rw [← ht, HF.out])
      have d1 : decide ((i : Int) < (i : Int)) = false := decide_eq_false (by omega)
      clear ht
      go_wp2
      go_ret
      exact ⟨by rw [HV.out]; rfl, rfl⟩
    | succ g =>
      have hi : i < n := by omega
      have hiI : (i : Int) < (n : Int) := by omega
      obtain ⟨b0, o, rfl, hcb⟩ := HR.out.2 i (by rw [HN.out]; exact hi)
      have e1 := HT.out i (by rw [HN.out]; exact hi)
      have e2 := HTL.out (i + 1)
      have e3 := HS.out
      obtain ⟨x, hx⟩ : ∃ x, co l i = x := ⟨_, rfl⟩
      rw [hx] at hcb e1
      have HE := Lib.hid (show (l.take (i + 1)).sum = t + x by rw [e1, ht])
      have hb : t + x < 18446744073709551616 := by rw [← HE.out]; omega
      clear e1 e2 e3 ht hx
      go_wp2
      go_roundg g
      case measure => omega
      case rel => exact ⟨i + 1, t + x, by omega, HE.out, by go_num, by go_num, rfl⟩
end Go.Proofs.Ytnfgokbopndmgaa

/-
  The document's own ledger of layer 13 in memory, and what its Is does. Conditions: no more than 2^20 accounts.
-/
namespace Go.Proofs.Ytnfgokbopndmgaa
open Go.RowKit
open Pol (co)

/-- Block g holds the numbers l, n of them, with room for c. -/
structure RowU (w : World) (g n c : Nat) (l : List Nat) : Prop where
  len : l.length = n
  cap : n ≤ c
  num : U64 l
  row : ∃ cur, w.heap[g]? = some (.cells cur 22) ∧ c ≤ cur.size ∧ cur.toList.take n = uv l
theorem RowU.stay {w w' : World} {g n c : Nat} {l : List Nat} (h : RowU w g n c l) (hk : w'.heap[g]? = w.heap[g]?) : RowU w' g n c l := ⟨h.len, h.cap, h.num, by
  obtain ⟨cur, h1, h2, h3⟩ := h.row
  exact ⟨cur, hk.trans h1, h2, h3⟩⟩
theorem RowU.rd {w : World} {g n c : Nat} {l : List Nat} (h : RowU w g n c l) : URd w (some ⟨g, 0, none⟩) l := ⟨h.num, fun i hi => by
  obtain ⟨cur, h1, h2, h3⟩ := h.row
  have hl := h.len
  refine ⟨g, 0, rfl, ?_⟩
  rw [Nat.zero_add, cell_of_row w g i cur _ _ h1, ← uv_at l i hi, ← h3, List.getElem?_take, if_pos (by omega)]
  simp⟩
theorem RowU.at {w : World} {g n c i : Nat} {l : List Nat} (h : RowU w g n c l) (hi : i < n) : w.cell? ⟨g, i, none⟩ = some (.int .u64 ((co l i : Nat) : Int)) := by
  obtain ⟨b, o, e, hc⟩ := h.rd.2 i (by rw [h.len]; exact hi)
  injection e with e
  injection e with e1 e2
  subst e1; subst e2
  rwa [Nat.zero_add] at hc
theorem RowU.free {w : World} {g n c : Nat} {l : List Nat} (h : RowU w g n c l) (i : Nat) : w.frozen? ⟨g, i, none⟩ = false := by
  obtain ⟨cur, h1, _⟩ := h.row
  exact frozen_of_row w g i cur _ h1
theorem RowU.put {w : World} {g n c i x : Nat} {l : List Nat} (h : RowU w g n c l) (hx : x < 18446744073709551616) : RowU (w.setCell ⟨g, i, none⟩ (.int .u64 (x : Int))) g n c (l.set i x) := by
  obtain ⟨cur, h1, h2, h3⟩ := h.row
  refine ⟨by rw [List.length_set]; exact h.len, h.cap, fun j => ?_, cur.setIfInBounds i (.int .u64 (x : Int)), heap_setCell_same w g i cur _ _ h1, by simpa using h2, ?_⟩
  · rw [co_set13]
    split
    · exact hx
    · exact h.num j
  · rw [Array.toList_setIfInBounds, List.take_set, h3]
    unfold uv
    rw [List.map_set]
/-- The blocks that the four slices of a document's ledger lie in, and their room. -/
structure Gb where
  b : Nat
  n : Nat
  f : Nat
  d : Nat
  cb : Nat
  cn : Nat
  cf : Nat
  cd : Nat
/-- The document's ledger at block σ, in blocks of Y. -/
structure RG (Y : Nat → Prop) (σ : Nat) (G : Gb) (w : World) (m : Nat) (s : Lgr) : Prop where
  head : w.heap[σ]? = some (.cells #[.slice (some ⟨G.b, 0, none⟩) m G.cb, .slice (some ⟨G.n, 0, none⟩) m G.cn, .slice (some ⟨G.f, 0, none⟩) m G.cf, .slice (some ⟨G.d, 0, none⟩) m G.cd, .int .u64 ((s.t : Nat) : Int)] 52)
  rb : RowU w G.b m G.cb s.b
  rn : RowU w G.n m G.cn s.n
  rf : RowU w G.f m G.cf s.f
  rd : RowU w G.d m G.cd s.d
  t : s.t < 18446744073709551616
  yσ : Y σ
  yb : Y G.b
  yn : Y G.n
  yf : Y G.f
  yd : Y G.d
  far : σ ≠ G.b ∧ σ ≠ G.n ∧ σ ≠ G.f ∧ σ ≠ G.d ∧ G.b ≠ G.n ∧ G.b ≠ G.f ∧ G.b ≠ G.d ∧ G.n ≠ G.f ∧ G.n ≠ G.d ∧ G.f ≠ G.d
theorem RG.stay {Y : Nat → Prop} {σ m : Nat} {G : Gb} {w w' : World} {s : Lgr} (h : RG Y σ G w m s) (hk : ∀ b, Y b → w'.heap[b]? = w.heap[b]?) : RG Y σ G w' m s :=
  ⟨(hk σ h.yσ).trans h.head, h.rb.stay (hk _ h.yb), h.rn.stay (hk _ h.yn), h.rf.stay (hk _ h.yf), h.rd.stay (hk _ h.yd), h.t, h.yσ, h.yb, h.yn, h.yf, h.yd, h.far⟩
theorem RG.c0 {Y : Nat → Prop} {σ m : Nat} {G : Gb} {w : World} {s : Lgr} (h : RG Y σ G w m s) : w.cell? ⟨σ, 0, none⟩ = some (.slice (some ⟨G.b, 0, none⟩) m G.cb) := by rw [cell_of_row w σ 0 _ _ _ h.head]; rfl
theorem RG.c1 {Y : Nat → Prop} {σ m : Nat} {G : Gb} {w : World} {s : Lgr} (h : RG Y σ G w m s) : w.cell? ⟨σ, 1, none⟩ = some (.slice (some ⟨G.n, 0, none⟩) m G.cn) := by rw [cell_of_row w σ 1 _ _ _ h.head]; rfl
theorem RG.c2 {Y : Nat → Prop} {σ m : Nat} {G : Gb} {w : World} {s : Lgr} (h : RG Y σ G w m s) : w.cell? ⟨σ, 2, none⟩ = some (.slice (some ⟨G.f, 0, none⟩) m G.cf) := by rw [cell_of_row w σ 2 _ _ _ h.head]; rfl
theorem RG.c3 {Y : Nat → Prop} {σ m : Nat} {G : Gb} {w : World} {s : Lgr} (h : RG Y σ G w m s) : w.cell? ⟨σ, 3, none⟩ = some (.slice (some ⟨G.d, 0, none⟩) m G.cd) := by rw [cell_of_row w σ 3 _ _ _ h.head]; rfl
theorem RG.c4 {Y : Nat → Prop} {σ m : Nat} {G : Gb} {w : World} {s : Lgr} (h : RG Y σ G w m s) : w.cell? ⟨σ, 4, none⟩ = some (.int .u64 ((s.t : Nat) : Int)) := by rw [cell_of_row w σ 4 _ _ _ h.head]; rfl
set_option maxHeartbeats 800000 in
theorem ref13_is {Y : Nat → Prop} {σ m : Nat} {G : Gb} {s : Lgr} (w : World) (h : RG Y σ G w m s) (who : Int) :
    Calls Try.prog 43 #[.pointer (some ⟨σ, 0, none⟩), .int .i64 who] w (fun e w' => e = .returned (.bool (decide (0 ≤ who ∧ who < (m : Int)))) ∧ w = w') := by
  have c0 := h.c0
  clear h
  by_cases h1 : 0 ≤ who
  · have d1 : decide (who ≥ 0) = true := decide_eq_true (by omega)
    have d1' : decide (0 ≤ who) = true := decide_eq_true (by omega)
    rw [show decide (0 ≤ who ∧ who < (m : Int)) = decide (who < (m : Int)) by simp [h1]]
    go_enter Try.func43, Try.ntmps43
    go_wp2
    go_ret
    exact ⟨rfl, rfl⟩
  · have d1 : decide (who ≥ 0) = false := decide_eq_false (by omega)
    have d1' : decide (0 ≤ who) = false := decide_eq_false (by omega)
    rw [show decide (0 ≤ who ∧ who < (m : Int)) = false from decide_eq_false (by omega)]
    go_enter Try.func43, Try.ntmps43
    go_wp2
    go_ret
    exact ⟨rfl, rfl⟩
set_option maxHeartbeats 1600000 in
theorem ref13_total {Y : Nat → Prop} {σ m M : Nat} {G : Gb} {s : Lgr} (w : World) (h : RG Y σ G w m s) (hk : s.ok m M) (hm : m ≤ 1048576) (hM : M < 18446744073709551616) :
    Calls Try.prog 22 #[.pointer (some ⟨σ, 0, none⟩)] w (Hands (.int .u64 (M : Int)) w) := by
  have c0 := h.c0
  have c2 := h.c2
  have c3 := h.c3
  have c4 := h.c4
  have hs := hk.sum
  have HB := Lib.hid (fun q => ref13_sum s.b (some ⟨G.b, 0, none⟩) m G.cb (w.drewN q) h.rb.len ⟨h.rb.rd.1, h.rb.rd.2⟩ hm (by omega))
  have HF := Lib.hid (fun q => ref13_sum s.f (some ⟨G.f, 0, none⟩) m G.cf (w.drewN q) h.rf.len ⟨h.rf.rd.1, h.rf.rd.2⟩ hm (by omega))
  have HD := Lib.hid (fun q => ref13_sum s.d (some ⟨G.d, 0, none⟩) m G.cd (w.drewN q) h.rd.len ⟨h.rd.rd.1, h.rd.rd.2⟩ hm (by omega))
  clear h hk
  obtain ⟨t, ht⟩ : ∃ t, s.t = t := ⟨_, rfl⟩
  obtain ⟨b, hb⟩ : ∃ b, s.b.sum = b := ⟨_, rfl⟩
  obtain ⟨f, hf⟩ : ∃ f, s.f.sum = f := ⟨_, rfl⟩
  obtain ⟨d, hd⟩ : ∃ d, s.d.sum = d := ⟨_, rfl⟩
  rw [ht] at c4 hs
  rw [hb] at HB hs
  rw [hf] at HF hs
  rw [hd] at HD hs
  clear ht hb hf hd
  obtain ⟨bf, hbf⟩ : ∃ x, b + f = x := ⟨_, rfl⟩
  obtain ⟨bd, hbd⟩ : ∃ x, bf + d = x := ⟨_, rfl⟩
  have e1 : IntKind.u64.wrap ((b : Int) + (f : Int)) = (bf : Int) := by rw [IntKind.wrap_u64]; omega
  have e2 : IntKind.u64.wrap ((bf : Int) + (d : Int)) = (bd : Int) := by rw [IntKind.wrap_u64]; omega
  have e3 : IntKind.u64.wrap ((bd : Int) + (t : Int)) = (M : Int) := by rw [IntKind.wrap_u64]; omega
  clear hs hbf hbd hM hm
  obtain ⟨gb, gn, gf, gd, cb, cn, cf, cd⟩ := G
  go_enter Try.func22, Try.ntmps22
  go_wp2
  go_quiet (first | (go_at_call 45; with_reducible first | exact quiet_same (HB.out _) | exact quiet_same (HF.out _) | exact quiet_same (HD.out _)))
  go_wp2
  go_ret
  exact ⟨rfl, nq, rfl⟩
end Go.Proofs.Ytnfgokbopndmgaa

/-
  Several slices of numbers that a call makes, each in a block of its own, in whatever order. Conditions: lengths up to 2^40.
-/
namespace Go.Proofs.Ytnfgokbopndmgaa
open Go.RowKit
open Pol (co)

/-- A slice of n numbers, the first of its block, which lies from base on. -/
def MadeU (w : World) (base : Nat) (v : Value) (n : Nat) (l : List Nat) : Prop := ∃ g c, v = .slice (some ⟨g, 0, none⟩) n c ∧ base ≤ g ∧ RowU w g n c l
theorem RowU.lt {w : World} {g n c : Nat} {l : List Nat} (h : RowU w g n c l) : g < w.heap.size := by
  obtain ⟨cur, h1, _⟩ := h.row
  exact row_lt h1
theorem RowU.ext {w w' : World} {g n c : Nat} {l : List Nat} (h : RowU w g n c l) (hx : Ext w w') : RowU w' g n c l := h.stay (hx.below.block g h.lt)
theorem MadeU.ext {w w' : World} {base n : Nat} {v : Value} {l : List Nat} (h : MadeU w base v n l) (hx : Ext w w') : MadeU w' base v n l := by
  obtain ⟨g, c, h1, h2, h3⟩ := h
  exact ⟨g, c, h1, h2, h3.ext hx⟩
theorem MadeU.down {w : World} {base base' n : Nat} {v : Value} {l : List Nat} (h : MadeU w base v n l) (hb : base' ≤ base) : MadeU w base' v n l := by
  obtain ⟨g, c, h1, h2, h3⟩ := h
  exact ⟨g, c, h1, Nat.le_trans hb h2, h3⟩
theorem UMine.made {w : World} {base n : Nat} {v : Value} {l : List Nat} (h : UMine w base v l) (hn : l.length = n) (h0 : 0 < n) (hu : U64 l) : MadeU w base v n l := by
  rcases h.2 with ⟨_, e⟩ | ⟨g, cap, cur, rfl, hb, hg, hnc, _, hcs, htake⟩
  · omega
  · refine ⟨g, cap, by rw [hn], hb, hn, by omega, hu, cur, hg, by omega, ?_⟩
    rw [← hn, ← htake]
    simp
/-- What has been made so far (K), by number (S): numbers T, no two in one block. -/
structure Fam (w : World) (base n : Nat) (T : Nat → List Nat) (K : Nat → Bool) (S : Nat → Value) : Prop where
  made : ∀ k, k < 4 → K k = true → MadeU w base (S k) n (T k)
  far : ∀ j k, j < 4 → k < 4 → j ≠ k → K j = true → K k = true → (S j).ownBlock ≠ (S k).ownBlock
theorem Fam.next {w w' : World} {base n i : Nat} {T : Nat → List Nat} {K K' : Nat → Bool} {S S' : Nat → Value} (h : Fam w base n T K S) (hx : Ext w w') (hb : base ≤ w.heap.size) (hm : MadeU w' w.heap.size (S' i) n (T i))
    (hK : ∀ k, k < 4 → K' k = true → k ≠ i → K k = true) (hS : ∀ k, k < 4 → k ≠ i → S' k = S k) : Fam w' base n T K' S' := by
  have hold : ∀ k, k < 4 → k ≠ i → K' k = true → ∃ g, (S' k).ownBlock = some g ∧ g < w.heap.size := fun k hk hne hk' => by
    obtain ⟨g, c, e, _, hr⟩ := h.made k hk (hK k hk hk' hne)
    exact ⟨g, by rw [hS k hk hne, e]; rfl, hr.lt⟩
  have hnew : ∃ g, (S' i).ownBlock = some g ∧ w.heap.size ≤ g := by
    obtain ⟨g, c, e, hg, _⟩ := hm
    exact ⟨g, by rw [e]; rfl, hg⟩
  refine ⟨fun k hk hk' => ?_, fun j k hj hk hne hj' hk' => ?_⟩
  · by_cases e : k = i
    · subst e; exact hm.down hb
    · rw [hS k hk e]; exact (h.made k hk (hK k hk hk' e)).ext hx
  · obtain ⟨g, hg, hg2⟩ := hnew
    by_cases ej : j = i
    · subst ej
      obtain ⟨g', e', hlt⟩ := hold k hk (fun e => hne e.symm) hk'
      rw [hg, e']
      intro e
      injection e with e
      omega
    · by_cases ek : k = i
      · subst ek
        obtain ⟨g', e', hlt⟩ := hold j hj ej hj'
        rw [hg, e']
        intro e
        injection e with e
        omega
      · rw [hS j hj ej, hS k hk ek]
        exact h.far j k hj hk hne (hK j hj hj' ej) (hK k hk hk' ek)
theorem Fam.same {w w' : World} {base n : Nat} {T : Nat → List Nat} {K K' : Nat → Bool} {S S' : Nat → Value} (h : Fam w base n T K S) (hx : Ext w w') (hK : ∀ k, k < 4 → K' k = true → K k = true) (hS : ∀ k, k < 4 → S' k = S k) : Fam w' base n T K' S' :=
  ⟨fun k hk hk' => by rw [hS k hk]; exact (h.made k hk (hK k hk hk')).ext hx, fun j k hj hk hne hj' hk' => by rw [hS j hj, hS k hk]; exact h.far j k hj hk hne (hK j hj hj') (hK k hk hk')⟩
theorem row_zeros (w : World) (n : Nat) : RowU (w.alloc (.cells (madeCells #[.int .u64 0] n) 22)) w.heap.size n n (List.replicate n 0) := by
  refine ⟨by simp, Nat.le_refl _, fun i => ?_, _, heap_alloc_new w _, by simp [size_madeCells], ?_⟩
  · unfold co
    rw [List.getElem?_replicate]
    split <;> decide
  · apply List.ext_getElem?
    intro i
    unfold uv
    rw [List.getElem?_take]
    by_cases h : i < n
    · simp [h, madeCells, Nat.mod_one]
    · simp [h]
theorem run_make_u64 (n : Nat) (hn : n ≤ 1099511627776) (w : World) :
    (Instr.makeSlice 40 (.int .i64 (n : Int)) (.int .i64 (n : Int))).run Try.prog w = .ok (.slice (some ⟨w.heap.size, 0, none⟩) n n) (w.alloc (.cells (madeCells #[.int .u64 0] n) 22)) := by
  obtain ⟨i0, hi, hz0, hz1, hz2⟩ := info_parts u64_info
  have h := run_make (P := Try.prog) w 40 22 i0 (.int .u64 0) Try.underlying40 hi hz0 .i64 .i64 n n (by omega) (by omega) (by rw [hz2]; omega) (by omega)
  simp only [Int.toNat_natCast, hz1, Nat.mul_one] at h
  rw [h]
  rfl
set_option maxRecDepth 100000 in
/-- An append to a literal of no numbers. -/
theorem run_append_new64 (w : World) (ty : TypeId) (g : Nat) (m : List Nat) (A : Option Addr) (c : Nat) (hm : URd w A m) (h0 : 0 < m.length) (hlen : m.length ≤ 1099511627776) :
    ∃ v' w', (Builtin.append_ #[40, 40] ty #[.slice (some ⟨g, 0, none⟩) 0 0, .slice A m.length c]).run Try.prog w = .ok v' w' ∧ MadeU w' w.heap.size v' m.length m ∧ Ext w w' := by
  obtain ⟨i0, hi, hz0, hz1, hz2⟩ := info_parts u64_info
  obtain ⟨b, o, rfl, _⟩ := hm.2 0 h0
  have hcells : ∀ j u, (uv m)[j]? = some u → w.cell? ((⟨b, o, none⟩ : Addr).add j) = some u := fun j u hu => by
    have hj : j < m.length := by
      have := (List.getElem?_eq_some_iff.1 hu).1
      rwa [uv_len] at this
    obtain ⟨b', o', e, hc⟩ := hm.2 j hj
    injection e with e
    injection e with e1 e2
    subst e1; subst e2
    rw [addr_add, hc, ← uv_at m j hj, hu]
  obtain ⟨v', w', h1, h2, h3⟩ := run_append_arg_grows (P := Try.prog) w 40 ty 22 i0 (.int .u64 0) 1 8 Try.underlying40 hi hz0 hz1 hz2 rfl (by omega) ⟨g, 0, none⟩ 0 0 [] rfl (fun j u hu => by simp at hu)
    ⟨b, o, none⟩ m.length c (uv m) (by rw [uv_len, Nat.mul_one]) hcells (by omega) (by unfold maxLen; omega) (by omega)
  refine ⟨v', w', h1, UMine.made (l := m) ?_ rfl h0 hm.1, (Ext.refl w).more h3 (fun k e => by cases e)⟩
  unfold UMine
  simpa using h2
theorem wpList_append_new64 {ops : Array Oper} {rest : List Oper} {op : Oper} {a : Act} {w : World} {Q : Exit → Act → World → Prop} (hgd : op.guard = none) (s x : Operand)
    (ho : op.op = .call { callee := .builtin .append, args := #[s, x], argTypes := #[40, 40] })
    (g : Nat) (m : List Nat) (hs : a.eval s = .slice (some ⟨g, 0, none⟩) 0 0) (A : Option Addr) (n c : Nat) (hx : a.eval x = .slice A n c) (hn : m.length = n) (h0 : 0 < n) (hr : URd w A m) (hlen : n ≤ 1099511627776)
    (h : ∀ v' w', MadeU w' w.heap.size v' n m → Ext w w' → wpList Try.prog ops Q rest (a.put op.dst v') w') : wpList Try.prog ops Q (op :: rest) a w := by
  subst hn
  refine wpList_plain hgd fun K hK => ?_
  obtain ⟨v', w', hrun, h2, h3⟩ := run_append_new64 w op.type g m A c hr h0 hlen
  unfold Oper.wp execOp
  simp only [ho, resolve, invoke, builtin, Sem.run_bind, Sem.run_pure, Result.andThen_ok, List.map_toArray, List.map_cons, List.map_nil, hs, hx, hrun]
  exact hK _ _ (h v' w' h2 h3)
end Go.Proofs.Ytnfgokbopndmgaa

/-
  Bytes that a call makes and fills one by one: a block as a function of the place. Conditions: none.
-/
namespace Go.Proofs.Ytnfgokbopndmgaa
open Go.RowKit
open Pol (co Sm)

/-- n bytes, the one at place i being f i: as cells, and as a list. -/
def bt (n : Nat) (f : Nat → Nat) : Array Value := Array.ofFn (n := n) fun i => Value.int .u8 ((f i.val : Nat) : Int)
def tab (n : Nat) (f : Nat → Nat) : List Nat := (List.range n).map f
def upd (f : Nat → Nat) (k v : Nat) : Nat → Nat := fun i => if i = k then v else f i
theorem bt_size (n : Nat) (f : Nat → Nat) : (bt n f).size = n := by simp [bt]
theorem bt_at (n : Nat) (f : Nat → Nat) (i : Nat) (h : i < n) : (bt n f)[i]? = some (.int .u8 ((f i : Nat) : Int)) := by simp [bt, h]
theorem bt_set (n : Nat) (f : Nat → Nat) (k v : Nat) : (bt n f).setIfInBounds k (.int .u8 (v : Int)) = bt n (upd f k v) := by
  apply Array.ext (by simp [bt])
  intro i h1 h2
  simp only [bt, Array.size_setIfInBounds, Array.size_ofFn] at h1
  rw [Array.getElem_setIfInBounds (by simpa [bt] using h1)]
  by_cases e : k = i
  · subst e; simp [bt, upd]
  · rw [if_neg e]
    simp only [bt, Array.getElem_ofFn, upd]
    rw [if_neg (fun h => e h.symm)]
theorem bt_made (n : Nat) : madeCells #[.int .u8 0] n = bt n (fun _ => 0) := by
  apply Array.ext (by simp [bt, size_madeCells])
  intro i h1 h2
  simp [madeCells, bt, Nat.mod_one]
theorem tab_len (n : Nat) (f : Nat → Nat) : (tab n f).length = n := by simp [tab]
theorem co_tab (n : Nat) (f : Nat → Nat) (i : Nat) : co (tab n f) i = if i < n then f i else 0 := by
  unfold co tab
  rw [List.getElem?_map]
  by_cases h : i < n
  · rw [if_pos h, List.getElem?_range h]; rfl
  · rw [if_neg h, List.getElem?_eq_none (by simp; omega)]; rfl
theorem tab_sm (n : Nat) (f : Nat → Nat) (h : ∀ i, i < n → f i < 256) : Sm (tab n f) := fun i => by
  rw [co_tab]
  split
  · exact h i (by assumption)
  · omega
/-- Block g holds just these n bytes. -/
def Blk (w : World) (g n : Nat) (f : Nat → Nat) : Prop := w.heap[g]? = some (.cells (bt n f) 5 (0, 0))
theorem Blk.cell {w : World} {g n : Nat} {f : Nat → Nat} (h : Blk w g n f) (i : Nat) (hi : i < n) : w.cell? ⟨g, i, none⟩ = some (.int .u8 ((f i : Nat) : Int)) := by
  rw [cell_of_row w g i _ _ _ h, bt_at n f i hi]
theorem Blk.frozen {w : World} {g n : Nat} {f : Nat → Nat} (h : Blk w g n f) (i : Nat) : w.frozen? ⟨g, i, none⟩ = false := frozen_of_row w g i _ _ h
theorem Blk.store {w : World} {g n : Nat} {f : Nat → Nat} (h : Blk w g n f) (k v : Nat) : Blk (w.setCell ⟨g, k, none⟩ (.int .u8 (v : Int))) g n (upd f k v) := by
  unfold Blk
  rw [heap_setCell_same w g k _ _ _ h, bt_set]
theorem Blk.drewN {w : World} {g n : Nat} {f : Nat → Nat} (h : Blk w g n f) (m : Nat) : Blk (w.drewN m) g n f := h
theorem Blk.new (w : World) (n : Nat) (f : Nat → Nat) : Blk (w.alloc (.cells (bt n f) 5)) w.heap.size n f := heap_alloc_new w _
theorem Blk.congr {w : World} {g n : Nat} {f f' : Nat → Nat} (h : Blk w g n f) (hf : ∀ i, i < n → f i = f' i) : Blk w g n f' := by
  have e : bt n f = bt n f' := by
    apply Array.ext (by simp [bt])
    intro i h1 h2
    have hi : i < n := by simpa [bt] using h1
    simp [bt, hf i hi]
  unfold Blk
  rw [← e]
  exact h
theorem Blk.reads {w : World} {g n : Nat} {f : Nat → Nat} (h : Blk w g n f) (hs : ∀ i, i < n → f i < 256) : Rd w (some ⟨g, 0, none⟩) (tab n f) :=
  ⟨tab_sm n f hs, fun i hi => ⟨g, 0, rfl, by
    rw [tab_len] at hi
    rw [Nat.zero_add, h.cell i hi, co_tab, if_pos hi]⟩⟩
theorem Blk.lt {w : World} {g n : Nat} {f : Nat → Nat} (h : Blk w g n f) : g < w.heap.size := by
  rcases Nat.lt_or_ge g w.heap.size with hlt | hge
  · exact hlt
  · unfold Blk at h; rw [Array.getElem?_eq_none hge] at h; cases h
theorem Blk.ext {w w' : World} {g n : Nat} {f : Nat → Nat} (h : Blk w g n f) (hx : Ext w w') : Blk w' g n f := (hx.below.block g h.lt).trans h

set_option maxRecDepth 100000 in
/-- make([]byte, n). -/
theorem run_make_u8 (n : Nat) (hn : n ≤ 1099511627776) (w : World) :
    (Instr.makeSlice 23 (.int .i64 (n : Int)) (.int .i64 (n : Int))).run Try.prog w = .ok (.slice (some ⟨w.heap.size, 0, none⟩) n n) (w.alloc (.cells (bt n fun _ => 0) 5)) := by
  obtain ⟨i0, hi, hz0, hz1, hz2⟩ := info_parts u8_info
  have h := run_make (P := Try.prog) w 23 5 i0 (.int .u8 0) Try.underlying23 hi hz0 .i64 .i64 n n (by omega) (by omega) (by rw [hz2]; omega) (by omega)
  simp only [Int.toNat_natCast, hz1, Nat.mul_one] at h
  rw [h, ← bt_made]
  rfl
end Go.Proofs.Ytnfgokbopndmgaa

/-
  Bytes in a block of a call's own, that are changed one by one; what stays while other blocks are written. Conditions: none.
-/
namespace Go.Proofs.Ytnfgokbopndmgaa
open Go.RowKit
open Pol (co Sm trim)

/-- The first n cells of block g are the bytes F, and may be written. -/
def Cells (w : World) (g n : Nat) (F : Nat → Nat) : Prop := ∀ i, i < n → w.cell? ⟨g, i, none⟩ = some (.int .u8 ((F i : Nat) : Int)) ∧ w.frozen? ⟨g, i, none⟩ = false
theorem Blk.cells {w : World} {g n : Nat} {F : Nat → Nat} (h : Blk w g n F) : Cells w g n F := fun i hi => ⟨h.cell i hi, h.frozen i⟩
theorem Cells.drewN {w : World} {g n : Nat} {F : Nat → Nat} (h : Cells w g n F) (k : Nat) : Cells (w.drewN k) g n F := h
theorem Cells.congr {w : World} {g n : Nat} {F F' : Nat → Nat} (h : Cells w g n F) (hf : ∀ i, i < n → F i = F' i) : Cells w g n F' := fun i hi => ⟨by rw [(h i hi).1, hf i hi], (h i hi).2⟩
theorem Cells.store {w : World} {g n : Nat} {F : Nat → Nat} (h : Cells w g n F) (k v : Nat) : Cells (w.setCell ⟨g, k, none⟩ (.int .u8 (v : Int))) g n (upd F k v) := fun i hi => by
  refine ⟨?_, by rw [World.frozen?_setCell]; exact (h i hi).2⟩
  unfold upd
  by_cases e : i = k
  · subst e
    rw [if_pos rfl]
    exact World.cell?_setCell_same' _ _ _ (by rw [(h i hi).1]; rfl)
  · rw [if_neg e, World.cell?_setCell_other _ _ _ _ (fun h => e (by cases h; rfl))]
    exact (h i hi).1
theorem Cells.keep {w w' : World} {g n : Nat} {F : Nat → Nat} {row : Option Nat} (h : Cells w g n F) (hg : w.grownBy w' row) (hne : some g ≠ row) : Cells w' g n F := fun i hi =>
  ⟨hg.cell (h i hi).1 hne, (World.frozen?_of_block (a := ⟨g, i, none⟩) (hg.block g (block_lt_of_cell (h i hi).1) hne)).trans (h i hi).2⟩
theorem Cells.ext {w w' : World} {g n : Nat} {F : Nat → Nat} (h : Cells w g n F) (hx : Ext w w') : Cells w' g n F := fun i hi =>
  ⟨(hx.below.cell (p := ⟨g, i, none⟩) (block_lt_of_cell (h i hi).1)).trans (h i hi).1, (hx.below.frozen (p := ⟨g, i, none⟩) (block_lt_of_cell (h i hi).1)).trans (h i hi).2⟩
theorem Cells.reads {w : World} {g n : Nat} {F : Nat → Nat} (h : Cells w g n F) (hs : ∀ i, i < n → F i < 256) : Rd w (some ⟨g, 0, none⟩) (tab n F) :=
  ⟨tab_sm n F hs, fun i hi => ⟨g, 0, rfl, by
    rw [tab_len] at hi
    rw [Nat.zero_add, (h i hi).1, co_tab, if_pos hi]⟩⟩
theorem Rd.keep {w w' : World} {A : Option Addr} {l : List Nat} {row : Option Nat} (h : Rd w A l) (hg : w.grownBy w' row) (hne : ∀ b o, A = some ⟨b, o, none⟩ → 0 < l.length → some b ≠ row) : Rd w' A l :=
  ⟨h.1, fun i hi => by
    obtain ⟨b, o, e, hc⟩ := h.2 i hi
    exact ⟨b, o, e, hg.cell hc (hne b o e (by omega))⟩⟩
theorem grown_set (w : World) (g o : Nat) (v : Value) : w.grownBy (w.setCell ⟨g, o, none⟩ v) (some g) :=
  ⟨rfl, rfl, rfl, by simp [World.setCell], fun k _ hk => Below.heap_setCell _ _ _ k (fun e => hk (by rw [e]))⟩
theorem grown_drewN (w : World) (n : Nat) (row : Option Nat) : w.grownBy (w.drewN n) row := ⟨rfl, rfl, rfl, Nat.le_refl _, fun _ _ _ => rfl⟩
theorem Ext.grown {w w' : World} (h : Ext w w') (row : Option Nat) : w.grownBy w' row := ⟨h.below.os, h.below.tape, h.below.output, h.below.size, fun k hk _ => h.below.block k hk⟩

/-- s[l:] of bytes, where the capacity goes on. -/
theorem run_from_u8 (g o len cap l : Nat) (h : l ≤ len) (hc : l < cap) (W : World) :
    (Instr.slice 23 (.slice (some ⟨g, o, none⟩) len cap) (some (.int .i64 (l : Int))) none none).run Try.prog W = .ok (.slice (some ⟨g, o + l, none⟩) (len - l) (cap - l)) W := by
  obtain ⟨i0, hi, hz0, hz1, hz2⟩ := info_parts u8_info
  have he : Try.prog.elem 23 = 5 := by kernel_rfl
  rw [run_slice_l W 23 _ len cap (by rw [he]; exact Try.underlying23) .i64 (l : Int) (by omega) (by omega), he]
  simp [sizeOf, typeInfo, hi, hz1, Result.andThen, sliced, addr_add]
  omega

/-- A slice of the call's own, as cells that may be written. -/
theorem Mine.cells {w : World} {base : Nat} {v : Value} {l : List Nat} (hm : Mine w base v l) : ∃ A c g, v = .slice A l.length c ∧ l.length ≤ c ∧ (0 < l.length → A = some ⟨g, 0, none⟩ ∧ base ≤ g) ∧ Cells w g l.length (co l) := by
  rcases hm.2 with ⟨rfl, hn⟩ | ⟨g, cap, cur, rfl, hb, hg, hnc, _, _, htake⟩
  · have : l = [] := List.eq_nil_of_length_eq_zero hn
    subst this
    exact ⟨none, 0, 0, rfl, Nat.le_refl _, fun h => absurd h (by simp), fun i hi => absurd hi (by simp)⟩
  · refine ⟨_, cap, g, rfl, hnc, fun _ => ⟨rfl, hb⟩, fun i hi => ⟨?_, frozen_of_row w g i cur _ hg⟩⟩
    rw [cell_of_row w g i cur _ _ hg, ← bv_at l i hi, ← htake, List.getElem?_take, if_pos (by omega)]
    simp
end Go.Proofs.Ytnfgokbopndmgaa

/-
  The document's own ledger of layer 13, a number of which is written; what a call of it leaves. Conditions: none.
-/
namespace Go.Proofs.Ytnfgokbopndmgaa
open Go.RowKit
open Pol (co)

theorem RG.set_n {Y : Nat → Prop} {σ m i x : Nat} {G : Gb} {w : World} {s : Lgr} (h : RG Y σ G w m s) (hx : x < 18446744073709551616) :
    RG Y σ G (w.setCell ⟨G.n, i, none⟩ (.int .u64 (x : Int))) m { s with n := s.n.set i x } := by
  obtain ⟨f1, f2, f3, f4, f5, f6, f7, f8, f9, f10⟩ := h.far
  exact ⟨(heap_setCell_other w ⟨G.n, i, none⟩ σ _ f2).trans h.head, h.rb.stay (heap_setCell_other w ⟨G.n, i, none⟩ G.b _ f5), h.rn.put hx, h.rf.stay (heap_setCell_other w ⟨G.n, i, none⟩ G.f _ f8.symm), h.rd.stay (heap_setCell_other w ⟨G.n, i, none⟩ G.d _ f9.symm), h.t, h.yσ, h.yb, h.yn, h.yf, h.yd, h.far⟩
theorem RG.set_b {Y : Nat → Prop} {σ m i x : Nat} {G : Gb} {w : World} {s : Lgr} (h : RG Y σ G w m s) (hx : x < 18446744073709551616) :
    RG Y σ G (w.setCell ⟨G.b, i, none⟩ (.int .u64 (x : Int))) m { s with b := s.b.set i x } := by
  obtain ⟨f1, f2, f3, f4, f5, f6, f7, f8, f9, f10⟩ := h.far
  exact ⟨(heap_setCell_other w ⟨G.b, i, none⟩ σ _ f1).trans h.head, h.rb.put hx, h.rn.stay (heap_setCell_other w ⟨G.b, i, none⟩ G.n _ f5.symm), h.rf.stay (heap_setCell_other w ⟨G.b, i, none⟩ G.f _ f6.symm), h.rd.stay (heap_setCell_other w ⟨G.b, i, none⟩ G.d _ f7.symm), h.t, h.yσ, h.yb, h.yn, h.yf, h.yd, h.far⟩
theorem RG.set_f {Y : Nat → Prop} {σ m i x : Nat} {G : Gb} {w : World} {s : Lgr} (h : RG Y σ G w m s) (hx : x < 18446744073709551616) :
    RG Y σ G (w.setCell ⟨G.f, i, none⟩ (.int .u64 (x : Int))) m { s with f := s.f.set i x } := by
  obtain ⟨f1, f2, f3, f4, f5, f6, f7, f8, f9, f10⟩ := h.far
  exact ⟨(heap_setCell_other w ⟨G.f, i, none⟩ σ _ f3).trans h.head, h.rb.stay (heap_setCell_other w ⟨G.f, i, none⟩ G.b _ f6), h.rn.stay (heap_setCell_other w ⟨G.f, i, none⟩ G.n _ f8), h.rf.put hx, h.rd.stay (heap_setCell_other w ⟨G.f, i, none⟩ G.d _ f10.symm), h.t, h.yσ, h.yb, h.yn, h.yf, h.yd, h.far⟩
theorem RG.set_d {Y : Nat → Prop} {σ m i x : Nat} {G : Gb} {w : World} {s : Lgr} (h : RG Y σ G w m s) (hx : x < 18446744073709551616) :
    RG Y σ G (w.setCell ⟨G.d, i, none⟩ (.int .u64 (x : Int))) m { s with d := s.d.set i x } := by
  obtain ⟨f1, f2, f3, f4, f5, f6, f7, f8, f9, f10⟩ := h.far
  exact ⟨(heap_setCell_other w ⟨G.d, i, none⟩ σ _ f4).trans h.head, h.rb.stay (heap_setCell_other w ⟨G.d, i, none⟩ G.b _ f7), h.rn.stay (heap_setCell_other w ⟨G.d, i, none⟩ G.n _ f9), h.rf.stay (heap_setCell_other w ⟨G.d, i, none⟩ G.f _ f10), h.rd.put hx, h.t, h.yσ, h.yb, h.yn, h.yf, h.yd, h.far⟩
/-- The blocks of a document's ledger. -/
def Gb.has (G : Gb) (σ b : Nat) : Prop := b = σ ∨ b = G.b ∨ b = G.n ∨ b = G.f ∨ b = G.d
/-- What a call of the document's ledger leaves: the error's number, the ledger. -/
def LedP (Y : Nat → Prop) (σ m : Nat) (G : Gb) (w : World) (r : Nat × Lgr) (e : Ending) (w' : World) : Prop :=
  e = .returned (.int .i64 ((r.1 : Nat) : Int)) ∧ Only (G.has σ) w w' ∧ RG Y σ G w' m r.2
end Go.Proofs.Ytnfgokbopndmgaa

/-
  A region that draws its order, by an invariant: what holds of the listed operations, whichever they are, is kept by each operation that may come up next. Conditions: each operation waits for operations ahead of it in the text alone; of no program in particular.
-/
namespace Go.Proofs.Ytnfgokbopndmgaa
open Go

section
variable {P : Program} {ops : Array Oper} {Q : Exit → Act → World → Prop}

theorem Oper.wp_then {o : Oper} {a : Act} {w : World} {K K' : Act → World → Prop} (h : ∀ a w, K' a w → K a w) (hh : o.wp P a w K' (Exit.then K Q)) : o.wp P a w K Q := by
  unfold Oper.wp at *
  generalize (execOp a.eval o).run P w = r at *
  cases r with
  | ok n w' =>
    cases n <;> simp only [Oper.upon] at hh ⊢ <;>
      first
        | exact h _ _ hh
        | exact Calls.mono hh (fun e w'' he => by cases e <;> first | exact h _ _ he | exact he)
        | exact Rows.mono hh (fun _ _ he => h _ _ he)
  | halt x w' => cases x <;> simp only [Oper.upon] at hh ⊢ <;> exact hh
theorem wpOp_of_one {i : Nat} {o : Oper} {a : Act} {w : World} {K : Act → World → Prop} (hi : ops[i]? = some o) (h : wpList P ops (Exit.then K Q) [o] a w) : wpOp P ops Q i K a w := by
  unfold wpOp
  rw [hi]
  simp only
  unfold wpList at h
  split
  · rename_i hw
    rw [if_pos hw] at h
    rcases h with h | h
    · exact .inl (Oper.wp_then (fun a w h => by unfold wpList at h; exact h) h)
    · exact .inr h
  · rename_i hw
    rw [if_neg hw] at h
    unfold wpList at h
    exact h
def depsB (l : List Oper) : Bool := (List.range l.length).all fun i => match l[i]? with | some o => o.after.all (fun e => decide (e.on < i)) | none => true
theorem depsB_spec {l : List Oper} (h : depsB l = true) {i : Nat} {o : Oper} (hi : l[i]? = some o) : ∀ e ∈ o.after, e.on < i := by
  have hlt : i < l.length := (List.getElem?_eq_some_iff.1 hi).1
  have h1 := List.all_eq_true.1 h i (List.mem_range.2 hlt)
  rw [hi] at h1
  intro e he
  have h2 := (Array.all_eq_true_iff_forall_mem.1 h1) e he
  simpa using h2
theorem getD_true_of {L : Array Bool} {k : Nat} (h : L.getD k false = true) : L.getD k true = true := by
  rw [Array.getD_eq_getD_getElem?] at h ⊢
  cases hk : L[k]? with
  | none => rfl
  | some b => rw [hk] at h; exact h
theorem getD_false_of {L : Array Bool} {k : Nat} (hk : k < L.size) (h : L.getD k true = true) : L.getD k false = true := by
  rw [Array.getD_eq_getD_getElem?] at h ⊢
  rw [Array.getElem?_eq_getElem hk] at h ⊢
  exact h
theorem getD_listed (L : Array Bool) (i j : Nat) : (L.setIfInBounds i true).getD j true = (j == i || L.getD j true) := by
  by_cases e : j = i
  · subst e
    rw [Array.getD_eq_getD_getElem?, Array.getElem?_setIfInBounds_self]
    split <;> simp
  · rw [getD_set_ne true (fun h => e h.symm), show (j == i) = false from beq_eq_false_iff_ne.2 e, Bool.false_or]

theorem wpAny_inv {l : List Oper} (I : (Nat → Bool) → Act → World → Prop) (hB : depsB l = true)
    (hs : ∀ i o, l[i]? = some o → ∀ L a w, I L a w → L i = false → (∀ e ∈ o.after, Region.binds .any e = true → L e.on = true) → wpList P l.toArray (Exit.then (fun a' w' => I (fun j => j == i || L j) a' w') Q) [o] a w)
    (he : ∀ L a w, (∀ i, i < l.length → L i = true) → I L a w → Q .normal a w) :
    ∀ (f : Nat) (L : Array Bool) (a : Act) (w : World) (U : List Nat), L.size = l.length → U.length = f → (∀ i, L.getD i true = false → i ∈ U) → I (fun i => L.getD i true) a w → wpAny P .any l.toArray Q f L a w := by
  have hall : ∀ L : Array Bool, L.size = l.length → Region.ready .any l.toArray L = [] → ∀ i, i < l.length → L.getD i true = true := fun L hsz hr i => by
    induction i using Nat.strongRecOn with
    | _ i ih =>
      intro hi
      cases hb : L.getD i true with
      | true => rfl
      | false =>
        have hoi : l.toArray[i]? = some l[i] := by simp [hi]
        have hm : i ∈ Region.ready .any l.toArray L := mem_ready.2 ⟨hb, _, hoi, fun e hee _ => by
          have hlt := depsB_spec hB (i := i) (o := l[i]) (by simp [hi]) e hee
          exact getD_false_of (by omega) (ih e.on hlt (by omega))⟩
        rw [hr] at hm
        cases hm
  intro f
  induction f with
  | zero =>
    intro L a w U hsz hU hin hI
    have hU0 : U = [] := List.eq_nil_of_length_eq_zero hU
    subst hU0
    have hL : ∀ i, L.getD i true = true := fun i => by
      cases hb : L.getD i true with
      | true => rfl
      | false => exact absurd (hin i hb) (by simp)
    refine ⟨?_, he _ a w (fun i _ => hL i) hI⟩
    rcases hr : Region.ready .any l.toArray L with _ | ⟨i, r⟩
    · rfl
    · have hm : i ∈ Region.ready .any l.toArray L := by rw [hr]; simp
      have := (mem_ready.1 hm).1
      rw [hL i] at this
      cases this
  | succ f ih =>
    intro L a w U hsz hU hin hI
    refine ⟨fun hr => he _ a w (hall L hsz hr) hI, fun i hi => ?_⟩
    obtain ⟨hun, o, ho, haft⟩ := mem_ready.1 hi
    have ho' : l[i]? = some o := by simpa using ho
    have h1 := hs i o ho' _ a w hI hun (fun e hee hb => getD_true_of (haft e hee hb))
    have hU' : (U.erase i).length = f := by rw [List.length_erase_of_mem (hin i hun)]; omega
    refine wpOp_mono (fun a' w' hI' => ?_) (wpOp_of_one ho h1)
    refine ih _ a' w' (U.erase i) (by simpa using hsz) hU' (fun j hj => ?_) ?_
    · rw [getD_listed, Bool.or_eq_false_iff] at hj
      exact (List.mem_erase_of_ne (by simpa using hj.1)).2 (hin j hj.2)
    · simp only [getD_listed]
      exact hI'
theorem wp_region_inv {id : Nat} {a : Act} {w : World} {l : List Oper} (I : (Nat → Bool) → Act → World → Prop) (hm : P.follows .mixedOrders = true) (hB : depsB l = true) (h0 : I (fun i => !decide (i < l.length)) a w.drew)
    (hs : ∀ i o, l[i]? = some o → ∀ L a w, I L a w → L i = false → (∀ e ∈ o.after, Region.binds .any e = true → L e.on = true) → wpList P l.toArray (Exit.then (fun a' w' => I (fun j => j == i || L j) a' w') Q) [o] a w)
    (he : ∀ L a w, (∀ i, i < l.length → L i = true) → I L a w → wpList P l.toArray Q [] a w) : (Code.region id l.toArray true).wp P Q a w := by
  have e0 : (fun i => (Array.replicate l.toArray.size false).getD i true) = fun i => !decide (i < l.length) := by
    funext i
    rw [Array.getD_eq_getD_getElem?, Array.getElem?_replicate]
    by_cases h : i < l.length <;> simp [h]
  refine wp_region_any hm ?_
  refine wpAny_inv I hB hs he l.toArray.size _ a _ (List.range l.length) (by simp) (by simp) (fun i hi => ?_) (by rw [e0]; exact h0)
  have h1 := congrFun e0 i
  rw [hi] at h1
  exact List.mem_range.2 (by simpa using h1.symm)
end
end Go.Proofs.Ytnfgokbopndmgaa

/-
  A region that draws its order, whose first operations leave every world of a class in that class and yield the same values in all of them, and whose last operations follow in a forced order: one walk of the text's order serves every order. Conditions: none; of no program in particular.
-/
namespace Go.Proofs.Ytnfgokbopndmgaa
open Go

section
variable {P : Program} {ops : Array Oper} {md : Region.Mode} {C : World → Prop}

/-- f operations below n come up in whatever order, each quiet in the class; then L. -/
def ahead (P : Program) (md : Region.Mode) (ops : Array Oper) (C : World → Prop) (n : Nat) (L : Array Bool → Act → Prop) : Nat → Array Bool → Act → Prop
  | 0, listed, a => L listed a
  | f + 1, listed, a => Region.ready md ops listed ≠ [] ∧ ∀ i, i ∈ Region.ready md ops listed → i < n ∧ qOp P ops C i (ahead P md ops C n L f (listed.setIfInBounds i true)) a

theorem wpAny_of_ahead {n g : Nat} {L : Array Bool → Act → Prop} {Q' : Exit → Act → World → Prop} (hL : ∀ listed a w, C w → L listed a → wpAny P md ops Q' g listed a w) (f : Nat) :
    ∀ (listed : Array Bool) (a : Act) (w : World), C w → ahead P md ops C n L f listed a → wpAny P md ops Q' (f + g) listed a w := by
  induction f with
  | zero => intro listed a w hw h; rw [Nat.zero_add]; exact hL _ _ _ hw h
  | succ f ih =>
    intro listed a w hw h
    rw [Nat.succ_add]
    exact ⟨fun h0 => absurd h0 h.1, fun i hi => wpOp_of_qOp hw (fun a' w' hw' h' => ih _ a' w' hw' h') (h.2 i hi).2⟩

/-- What may come up now may be taken first. -/
theorem ahead_first {n i : Nat} {oi : Oper} {v : Value} {L : Array Bool → Act → Prop} (hi : ops[i]? = some oi) (hsel : ∀ (j : Nat) (o : Oper) cs b, ops[j]? = some o → o.op ≠ .select cs b)
    (hs : Region.sinkB md ops n = true) (hc : Region.chainB md ops n = true) (hn : n < ops.size) (hin : i < n)
    (hdone : ∀ listed a, L listed a → ∀ j ∈ Region.ready md ops listed, n ≤ j) (f : Nat) :
    ∀ (listed : Array Bool) (a : Act), HeadInv md ops n listed →
      (∀ j oj, ops[j]? = some oj → j ≠ i → listed.getD j true = false → (∀ e ∈ oj.after, Region.binds md e = true → e.on ≠ i) → oi.apart ops oj = true) →
      i ∈ Region.ready md ops listed → YieldsIn P ops C oi v a →
      ahead P md ops C n L f (listed.setIfInBounds i true) (a.put oi.dst v) → ahead P md ops C n L (f + 1) listed a := by
  induction f with
  | zero =>
    intro listed a inv _ hr hy H
    refine ⟨List.ne_nil_of_mem hr, fun j hj => ?_⟩
    have hjn : j < n := Nat.lt_of_not_le fun h => tail_waits hs hc hn inv _ i rfl hin (mem_ready.1 hr).1 j h hj
    by_cases hji : j = i
    · subst hji; exact ⟨hjn, hy.qOp hi H⟩
    · exact absurd (hdone _ _ H j (ready_mono hj hji)) (by omega)
  | succ f ih =>
    intro listed a inv hfree hr hy H
    have hun := (mem_ready.1 hr).1
    refine ⟨List.ne_nil_of_mem hr, fun j hj => ?_⟩
    have hjn : j < n := Nat.lt_of_not_le fun h => tail_waits hs hc hn inv _ i rfl hin hun j h hj
    by_cases hji : j = i
    · subst hji; exact ⟨hjn, hy.qOp hi H⟩
    obtain ⟨hjun, oj, hoj, hall⟩ := mem_ready.1 hj
    have hap := hfree j oj hoj hji hjun fun e he hb heq => by
      have h1 := hall e he hb
      rw [heq, getD_both hun] at h1
      cases h1
    refine ⟨hjn, qOp_mono (fun a' h3 => ih (listed.setIfInBounds j true) a' (inv.set hj hjn) ?_ (ready_mono hr (Ne.symm hji)) h3.1 ?_)
      (qOp_put hoj hap (fun cs b => hsel i oi cs b hi) (fun cs b => hsel j oj cs b hoj) hy (H.2 j (ready_mono hj hji)).2)⟩
    · intro k ok hk hki hu hno
      refine hfree k ok hk hki ?_ hno
      by_cases hjk : j = k
      · subst hjk; exact hjun
      · rwa [getD_set_ne true hjk] at hu
    · rw [Array.setIfInBounds_comm _ _ hji]; exact h3.2

theorem ahead_lex {n g : Nat} {Lq : Act → Prop} (hsel : Region.noSelect ops = true) (hs : Region.sinkB md ops n = true) (hc : Region.chainB md ops n = true) (hn : n < ops.size) (l : List Oper) :
    ∀ (k : Nat) (listed : Array Bool) (a : Act), (∀ j, j < l.length → l[j]? = ops[k + j]?) → k + l.length = n → HeadInv md ops n listed →
    Region.lexHead md ops g l.length k listed = true → wpQuiet P ops C Lq l a →
    ahead P md ops C n (fun listed' a' => Region.seqB md ops g n listed' = true ∧ Lq a') l.length listed a := by
  induction l with
  | nil =>
    intro k listed a _ hk _ hB h
    obtain rfl : k = n := by simpa using hk
    exact ⟨by simpa [Region.lexHead] using hB, h⟩
  | cons o l ih =>
    intro k listed a hl hk inv hB h
    have h0 : ops[k]? = some o := by simpa using (hl 0 (by simp)).symm
    simp only [List.length_cons, Region.lexHead, Bool.and_eq_true] at hB hk
    have hr : k ∈ Region.ready md ops listed := by simpa using hB.1.1
    obtain ⟨v, hy, hK⟩ := yieldsIn_of_qOp (C := C) (K := wpQuiet P ops C Lq l) h0 (by unfold qOp; simp only [h0]; exact h)
    refine ahead_first h0 (Region.noSelect_spec hsel) hs hc hn (by omega) (fun _ _ hL => seqB_ready hL.1) l.length listed a inv (Region.free_spec h0 hB.1.2) hr hy ?_
    exact ih (k + 1) _ _ (fun j hj => by have := hl (j + 1) (by simp; omega); simpa [Nat.add_assoc, Nat.add_comm 1 j] using this) (by omega) (inv.set hr (by omega)) hB.2 hK

theorem any_quiet_tail {Q : Exit → Act → World → Prop} {a : Act} {w : World} {l : List Oper} (n : Nat) (C : World → Prop) (hB : Region.lexTailB .any l.toArray n = true) (hC : C w.drew)
    (h : wpQuiet P l.toArray C (fun a' => ∀ w', C w' → wpList P l.toArray Q (l.drop n) a' w') (l.take n) a) : wpAny P .any l.toArray Q l.toArray.size (Array.replicate l.toArray.size false) a w.drew := by
  simp only [Region.lexTailB, Bool.and_eq_true, decide_eq_true_eq] at hB
  obtain ⟨⟨⟨⟨hsel, hn⟩, hs⟩, hc⟩, hlex⟩ := hB
  have hn' : n < l.length := by simpa using hn
  have htl : (l.take n).length = n := by rw [List.length_take]; omega
  have hdl : (l.drop n).length = l.toArray.size - n := by simp
  have inv0 : HeadInv .any l.toArray n (Array.replicate l.toArray.size false) :=
    ⟨by simp, fun j oj _ hl => (by rw [getD_replicate_false] at hl; cases hl), fun t _ ht => getD_in (by simpa using ht) (getD_replicate_false _ _)⟩
  have H := ahead_lex (md := .any) (g := l.toArray.size - n) (C := C) hsel hs hc hn (l.take n) 0 _ a (fun j hj => by
    have hj' : j < n := by rwa [htl] at hj
    simp [hj']) (by rw [htl]; exact Nat.zero_add n) inv0 (by rw [htl]; exact hlex) h
  have key := wpAny_of_ahead (C := C) (Q' := Q) (g := l.toArray.size - n) (fun listed a' w' hw' hL => by
    have := wpAny_of_seq (md := .any) (Q' := Q) (l.drop n) n listed a' w' (fun j => by simp [List.getElem?_drop]) (by rw [hdl]; exact hL.1) (hL.2 w' hw')
    rwa [hdl] at this) _ _ _ _ hC H
  rw [htl, show n + (l.toArray.size - n) = l.toArray.size by omega] at key
  exact key
theorem wp_region_quiet_tail {id : Nat} {Q : Exit → Act → World → Prop} {a : Act} {w : World} {l : List Oper} (n : Nat) (C : World → Prop) (hm : P.follows .mixedOrders = true) (hB : Region.lexTailB .any l.toArray n = true) (hC : C w.drew)
    (h : wpQuiet P l.toArray C (fun a' => ∀ w', C w' → wpList P l.toArray Q (l.drop n) a' w') (l.take n) a) : (Code.region id l.toArray true).wp P Q a w :=
  wp_region_any hm (any_quiet_tail n C hB hC h)
end
end Go.Proofs.Ytnfgokbopndmgaa

/-
  A region that draws its order, by an invariant, whose last operations follow in a forced order: the invariant speaks of the operations ahead of these alone. Conditions: a check of the region's text (by the kernel); of no program in particular.
-/
namespace Go.Proofs.Ytnfgokbopndmgaa
open Go

section
variable {P : Program} {Q : Exit → Act → World → Prop}

theorem wpAny_inv_tail {l : List Oper} (n : Nat) (I : (Nat → Bool) → Act → World → Prop) (hD : depsB l = true) (hss : Region.sinkB .any l.toArray n = true) (hc : Region.chainB .any l.toArray n = true) (hn : n < l.toArray.size)
    (hq : Region.seqB .any l.toArray (l.toArray.size - n) n (Array.replicate n true ++ Array.replicate (l.toArray.size - n) false) = true)
    (hs : ∀ i o, l[i]? = some o → i < n → ∀ L a w, I L a w → L i = false → (∀ e ∈ o.after, Region.binds .any e = true → L e.on = true) → wpList P l.toArray (Exit.then (fun a' w' => I (fun j => j == i || L j) a' w') Q) [o] a w)
    (he : ∀ L a w, (∀ i, i < n → L i = true) → I L a w → wpList P l.toArray Q (l.drop n) a w) :
    ∀ (f : Nat) (L : Array Bool) (a : Act) (w : World) (U : List Nat), HeadInv .any l.toArray n L → U.length = f → U.Nodup → (∀ i, i ∈ U ↔ i < n ∧ L.getD i true = false) → I (fun i => L.getD i true) a w → wpAny P .any l.toArray Q (f + (l.toArray.size - n)) L a w := by
  have hsz0 : l.toArray.size = l.length := by simp
  intro f
  induction f with
  | zero =>
    intro L a w U inv hU _ hin hI
    have hU0 : U = [] := List.eq_nil_of_length_eq_zero hU
    subst hU0
    have hL : ∀ i, i < n → L.getD i true = true := fun i hi => by
      cases hb : L.getD i true with
      | true => rfl
      | false => exact absurd ((hin i).2 ⟨hi, hb⟩) (by simp)
    have hLe : L = Array.replicate n true ++ Array.replicate (l.toArray.size - n) false := by
      apply Array.ext
      · simp [inv.size]; omega
      · intro i h1 h2
        have hi : i < l.toArray.size := by rw [← inv.size]; exact h1
        by_cases hin' : i < n
        · have := hL i hin'
          rw [Array.getD_eq_getD_getElem?, Array.getElem?_eq_getElem h1] at this
          rw [Array.getElem_append_left (by simpa using hin')]
          simpa using this
        · have := inv.tail i (by omega) hi
          rw [Array.getD_eq_getD_getElem?, Array.getElem?_eq_getElem h1] at this
          rw [Array.getElem_append_right (by simpa using hin')]
          simpa using this
    have hdl : (l.drop n).length = l.toArray.size - n := by simp
    have := wpAny_of_seq (md := .any) (Q' := Q) (l.drop n) n L a w (fun j => by simp [List.getElem?_drop]) (by rw [hdl, hLe]; exact hq) (he _ a w hL hI)
    rw [Nat.zero_add]
    rwa [hdl] at this
  | succ f ih =>
    intro L a w U inv hU hnd hin hI
    obtain ⟨i0, hi0⟩ : ∃ i0, i0 ∈ U := List.exists_mem_of_length_pos (by omega)
    obtain ⟨hi0n, hi0u⟩ := (hin i0).1 hi0
    rw [show f + 1 + (l.toArray.size - n) = (f + (l.toArray.size - n)) + 1 by omega]
    refine ⟨fun hr => ?_, fun i hi => ?_⟩
    · have hall : ∀ i, i < n → L.getD i true = true := fun i => by
        induction i using Nat.strongRecOn with
        | _ i ih =>
          intro hi
          cases hb : L.getD i true with
          | true => rfl
          | false =>
            have hil : i < l.length := by omega
            have hoi : l.toArray[i]? = some l[i] := by simp [hil]
            have hm : i ∈ Region.ready .any l.toArray L := mem_ready.2 ⟨hb, _, hoi, fun e hee _ => by
              have hlt := depsB_spec hD (i := i) (o := l[i]) (by simp [hil]) e hee
              exact getD_false_of (by rw [inv.size]; omega) (ih e.on hlt (by omega))⟩
            rw [hr] at hm
            cases hm
      rw [hall i0 hi0n] at hi0u
      cases hi0u
    · have hin' : i < n := Nat.lt_of_not_le fun h => tail_waits hss hc hn inv _ i0 rfl hi0n hi0u i h hi
      obtain ⟨hun, o, ho, haft⟩ := mem_ready.1 hi
      have ho' : l[i]? = some o := by simpa using ho
      have h1 := hs i o ho' hin' _ a w hI hun (fun e hee hb => getD_true_of (haft e hee hb))
      have hmU := (hin i).2 ⟨hin', hun⟩
      have hU' : (U.erase i).length = f := by rw [List.length_erase_of_mem hmU]; omega
      refine wpOp_mono (fun a' w' hI' => ?_) (wpOp_of_one ho h1)
      refine ih _ a' w' (U.erase i) (inv.set hi hin') hU' (hnd.erase i) (fun j => ?_) ?_
      · rw [hnd.mem_erase_iff, hin j, getD_listed, Bool.or_eq_false_iff]
        constructor
        · rintro ⟨h1, h2, h3⟩; exact ⟨h2, by simpa using h1, h3⟩
        · rintro ⟨h2, h1, h3⟩; exact ⟨by simpa using h1, h2, h3⟩
      · simp only [getD_listed]
        exact hI'
theorem wp_region_inv_tail {id : Nat} {a : Act} {w : World} {l : List Oper} (n : Nat) (I : (Nat → Bool) → Act → World → Prop) (hm : P.follows .mixedOrders = true) (hD : depsB l = true) (hB : Region.lexTailB .any l.toArray n = true)
    (hq : Region.seqB .any l.toArray (l.toArray.size - n) n (Array.replicate n true ++ Array.replicate (l.toArray.size - n) false) = true)
    (h0 : ∀ L, (∀ i, i < n → L i = false) → I L a w.drew)
    (hs : ∀ i o, l[i]? = some o → i < n → ∀ L a w, I L a w → L i = false → (∀ e ∈ o.after, Region.binds .any e = true → L e.on = true) → wpList P l.toArray (Exit.then (fun a' w' => I (fun j => j == i || L j) a' w') Q) [o] a w)
    (he : ∀ L a w, (∀ i, i < n → L i = true) → I L a w → wpList P l.toArray Q (l.drop n) a w) : (Code.region id l.toArray true).wp P Q a w := by
  simp only [Region.lexTailB, Bool.and_eq_true, decide_eq_true_eq] at hB
  obtain ⟨⟨⟨⟨hsel, hn⟩, hss⟩, hc⟩, hlex⟩ := hB
  have e0 : ∀ i, i < l.toArray.size → (Array.replicate l.toArray.size false).getD i true = false := fun i hi => getD_in (by simpa using hi) (getD_replicate_false _ _)
  have inv0 : HeadInv .any l.toArray n (Array.replicate l.toArray.size false) :=
    ⟨by simp, fun j oj _ hl => (by rw [getD_replicate_false] at hl; cases hl), fun t _ ht => e0 t ht⟩
  refine wp_region_any hm ?_
  have key := wpAny_inv_tail n I hD hss hc hn hq hs he n _ a w.drew (List.range n) inv0 (by simp) List.nodup_range (fun i => by
    rw [List.mem_range]
    exact ⟨fun h => ⟨h, e0 i (by omega)⟩, fun h => h.1⟩) (h0 _ (fun i hi => e0 i (by omega)))
  rwa [show n + (l.toArray.size - n) = l.toArray.size by omega] at key
end
end Go.Proofs.Ytnfgokbopndmgaa
