/-
  The plain mathematics of the field with 256 elements, on natural numbers: the powers of 3, their exponents, products, quotients and powers, and the laws that they keep. Conditions: none; nothing of the program is named here.
-/
namespace Gf

/-- Times 2, modulo x^8 + x^4 + x^3 + x + 1. -/
def dbl (a : Nat) : Nat := ((2 * a) % 256) ^^^ (if a < 128 then 0 else 27)
/-- Times 3. -/
def tri (a : Nat) : Nat := dbl a ^^^ a
/-- The powers of 3. -/
def pw : Nat → Nat
  | 0 => 1
  | n + 1 => tri (pw n)
/-- The table of exponents behind k rounds. -/
def lt : Nat → Nat → Nat
  | 0, _ => 0
  | k + 1, x => if x = pw k then k else lt k x
def lg (x : Nat) : Nat := lt 255 x
def mul (a b : Nat) : Nat := if a = 0 ∨ b = 0 then 0 else pw ((lg a + lg b) % 255)
def quo (a b : Nat) : Nat := if a = 0 then 0 else pw ((lg a + 255 - lg b) % 255)
def pow (a n : Nat) : Nat := if n = 0 then 1 else if a = 0 then 0 else pw ((lg a * (n % 255)) % 255)

def run : Nat → Nat → List Nat
  | 0, _ => []
  | n + 1, x => x :: run n (tri x)

theorem run_at : ∀ (n i s : Nat), i < n → (run n (pw s))[i]? = some (pw (s + i))
  | 0, _, _, h => by omega
  | n + 1, 0, s, _ => by simp [run]
  | n + 1, i + 1, s, h => by
    have := run_at n i (s + 1) (by omega)
    simp only [run, List.getElem?_cons_succ]
    rw [show tri (pw s) = pw (s + 1) from rfl, this]
    congr 2; omega

theorem run_len : ∀ (n x : Nat), (run n x).length = n
  | 0, _ => rfl
  | n + 1, x => by simp [run, run_len n]

theorem tab_nodup : (run 255 1).Nodup := by decide +kernel
theorem tab_all : ∀ a, a < 256 → a ≠ 0 → a ∈ run 255 1 := by decide +kernel
theorem tab_small : ∀ a ∈ run 255 1, a ≠ 0 ∧ a < 256 := by decide +kernel
theorem tri_add : ∀ a, a < 256 → ∀ b, b < 256 → tri (a ^^^ b) = tri a ^^^ tri b := by decide +kernel
theorem tri_lt : ∀ a, a < 256 → tri a < 256 := by decide +kernel
theorem dbl_lt : ∀ a, a < 256 → dbl a < 256 := by decide +kernel
theorem pw_255 : pw 255 = 1 := by decide +kernel

theorem tab_at (i : Nat) (h : i < 255) : (run 255 1)[i]? = some (pw i) := by
  have := run_at 255 i 0 h
  simpa [pw] using this

theorem pw_inj (i j : Nat) (hi : i < 255) (hj : j < 255) (h : pw i = pw j) : i = j := by
  have a := tab_at i hi
  have b := tab_at j hj
  rw [← h] at b
  have hl := run_len 255 1
  obtain ⟨_, ea⟩ := List.getElem?_eq_some_iff.1 a
  obtain ⟨_, eb⟩ := List.getElem?_eq_some_iff.1 b
  have hp := List.pairwise_iff_getElem.1 tab_nodup
  rcases Nat.lt_trichotomy i j with hlt | he | hlt
  · exact absurd (ea.trans eb.symm) (hp i j _ _ hlt)
  · exact he
  · exact absurd (eb.trans ea.symm) (hp j i _ _ hlt)

theorem pw_add255 : ∀ n, pw (n + 255) = pw n
  | 0 => by rw [Nat.zero_add]; exact pw_255
  | n + 1 => by
    rw [show n + 1 + 255 = (n + 255) + 1 from by omega]
    show tri (pw (n + 255)) = tri (pw n)
    rw [pw_add255 n]

theorem pw_mul255 (n : Nat) : ∀ k, pw (n + 255 * k) = pw n
  | 0 => rfl
  | k + 1 => by rw [show n + 255 * (k + 1) = (n + 255 * k) + 255 from by omega, pw_add255, pw_mul255 n k]

theorem pw_mod (n : Nat) : pw (n % 255) = pw n := by
  have := pw_mul255 (n % 255) (n / 255)
  rw [show n % 255 + 255 * (n / 255) = n from by omega] at this
  exact this.symm

theorem pw_bd (n : Nat) : pw n ≠ 0 ∧ pw n < 256 := by
  rw [← pw_mod]
  exact tab_small _ (List.mem_of_getElem? (tab_at _ (by omega)))

theorem lt_pw (k i : Nat) (hk : k ≤ 255) (hi : i < k) : lt k (pw i) = i := by
  induction k with
  | zero => omega
  | succ k ih =>
    unfold lt
    by_cases e : i = k
    · subst e; simp
    · rw [if_neg (fun h => e (pw_inj i k (by omega) (by omega) h))]
      exact ih (by omega) (by omega)

theorem lg_pw (i : Nat) (hi : i < 255) : lg (pw i) = i := lt_pw 255 i (by omega) hi

theorem is_pw (a : Nat) (h : a < 256) (h0 : a ≠ 0) : ∃ i, i < 255 ∧ pw i = a := by
  obtain ⟨i, hi⟩ := List.getElem?_of_mem (tab_all a h h0)
  have hl : i < 255 := by
    have := (List.getElem?_eq_some_iff.1 hi).1
    rwa [run_len] at this
  exact ⟨i, hl, by rw [tab_at i hl] at hi; exact Option.some.inj hi⟩

theorem lt_lt : ∀ (k x : Nat), k ≤ 256 → lt k x < 256
  | 0, _, _ => by simp [lt]
  | k + 1, x, h => by
    unfold lt
    split
    · omega
    · exact lt_lt k x (by omega)

theorem lg_lt (x : Nat) : lg x < 255 := by
  have : ∀ k, k ≤ 255 → lt k x < 255 := by
    intro k
    induction k with
    | zero => intro _; simp [lt]
    | succ k ih =>
      intro h
      unfold lt
      split
      · omega
      · exact ih (by omega)
  exact this 255 (by omega)

theorem pw_lg (a : Nat) (h : a < 256) (h0 : a ≠ 0) : pw (lg a) = a := by
  obtain ⟨i, hi, rfl⟩ := is_pw a h h0
  rw [lg_pw i hi]

theorem mul_pw (i j : Nat) : mul (pw i) (pw j) = pw (i + j) := by
  unfold mul
  rw [if_neg (by have := pw_bd i; have := pw_bd j; omega)]
  rw [← pw_mod i, ← pw_mod j, lg_pw _ (by omega), lg_pw _ (by omega), pw_mod, ← pw_mod (i + j), ← pw_mod (i % 255 + j % 255)]
  congr 1; omega

theorem mul_zero (a : Nat) : mul a 0 = 0 := by simp [mul]
theorem zero_mul (a : Nat) : mul 0 a = 0 := by simp [mul]
theorem mul_comm (a b : Nat) : mul a b = mul b a := by
  unfold mul
  rw [Nat.add_comm (lg a)]
  by_cases h : a = 0 ∨ b = 0
  · rw [if_pos h, if_pos h.symm]
  · rw [if_neg h, if_neg (fun k => h k.symm)]

theorem mul_lt (a b : Nat) : mul a b < 256 := by
  unfold mul
  split
  · omega
  · exact (pw_bd _).2

theorem mul_ne (a b : Nat) (h : a ≠ 0) (k : b ≠ 0) : mul a b ≠ 0 := by
  unfold mul
  rw [if_neg (by omega)]
  exact (pw_bd _).1

theorem mul_assoc (a b c : Nat) (ha : a < 256) (hb : b < 256) (hc : c < 256) : mul (mul a b) c = mul a (mul b c) := by
  by_cases a0 : a = 0
  · subst a0; simp [zero_mul]
  by_cases b0 : b = 0
  · subst b0; simp [zero_mul, mul_zero]
  by_cases c0 : c = 0
  · subst c0; simp [mul_zero]
  obtain ⟨i, _, rfl⟩ := is_pw a ha a0
  obtain ⟨j, _, rfl⟩ := is_pw b hb b0
  obtain ⟨k, _, rfl⟩ := is_pw c hc c0
  simp only [mul_pw]
  congr 1; omega

def tris : Nat → Nat → Nat
  | 0, x => x
  | n + 1, x => tri (tris n x)
theorem tris_lt : ∀ (n x : Nat), x < 256 → tris n x < 256
  | 0, _, h => h
  | n + 1, x, h => tri_lt _ (tris_lt n x h)
theorem tris_add : ∀ (n a b : Nat), a < 256 → b < 256 → tris n (a ^^^ b) = tris n a ^^^ tris n b
  | 0, _, _, _, _ => rfl
  | n + 1, a, b, ha, hb => by
    show tri (tris n (a ^^^ b)) = tri (tris n a) ^^^ tri (tris n b)
    rw [tris_add n a b ha hb, tri_add _ (tris_lt n a ha) _ (tris_lt n b hb)]
theorem tris_zero : ∀ n, tris n 0 = 0
  | 0 => rfl
  | n + 1 => by show tri (tris n 0) = 0; rw [tris_zero n]; rfl
theorem tris_pw : ∀ n j, tris n (pw j) = pw (n + j)
  | 0, j => by simp [tris]
  | n + 1, j => by
    show tri (tris n (pw j)) = _
    rw [tris_pw n j, show n + 1 + j = (n + j) + 1 from by omega]; rfl
theorem mul_tris (i b : Nat) (hb : b < 256) : mul (pw i) b = tris i b := by
  by_cases b0 : b = 0
  · subst b0; rw [mul_zero, tris_zero]
  · obtain ⟨j, _, rfl⟩ := is_pw b hb b0
    rw [mul_pw, tris_pw]

theorem xor_lt (a b : Nat) (ha : a < 256) (hb : b < 256) : a ^^^ b < 256 := Nat.xor_lt_two_pow (n := 8) ha hb

theorem mul_add (a b c : Nat) (ha : a < 256) (hb : b < 256) (hc : c < 256) : mul a (b ^^^ c) = mul a b ^^^ mul a c := by
  by_cases a0 : a = 0
  · subst a0; simp [zero_mul]
  obtain ⟨i, _, rfl⟩ := is_pw a ha a0
  rw [mul_tris i _ (xor_lt b c hb hc), mul_tris i _ hb, mul_tris i _ hc, tris_add i b c hb hc]

theorem add_mul (a b c : Nat) (ha : a < 256) (hb : b < 256) (hc : c < 256) : mul (a ^^^ b) c = mul a c ^^^ mul b c := by
  rw [mul_comm, mul_add c a b hc ha hb, mul_comm c a, mul_comm c b]

theorem mul_one (a : Nat) (ha : a < 256) : mul a 1 = a := by
  rw [mul_comm, show (1 : Nat) = pw 0 from rfl, mul_tris 0 a ha]; rfl
theorem one_mul (a : Nat) (ha : a < 256) : mul 1 a = a := by rw [mul_comm, mul_one a ha]
theorem mul_three (a : Nat) (ha : a < 256) : mul 3 a = tri a := by
  rw [show (3 : Nat) = pw 1 from by decide +kernel, mul_tris 1 a ha]; rfl
theorem mul_two (a : Nat) (ha : a < 256) : mul 2 a = dbl a := by
  rw [show (2 : Nat) = 3 ^^^ 1 from by decide, add_mul 3 1 a (by omega) (by omega) ha, mul_three a ha, one_mul a ha]
  unfold tri
  rw [Nat.xor_assoc, Nat.xor_self, Nat.xor_zero]

/-! Quotients. -/
theorem quo_lt (a b : Nat) : quo a b < 256 := by
  unfold quo
  split
  · omega
  · exact (pw_bd _).2
theorem quo_mul (a b : Nat) (ha : a < 256) (hb : b < 256) (b0 : b ≠ 0) : mul (quo a b) b = a := by
  obtain ⟨j, hj, rfl⟩ := is_pw b hb b0
  by_cases a0 : a = 0
  · subst a0; simp [quo, zero_mul]
  obtain ⟨i, hi, rfl⟩ := is_pw a ha a0
  unfold quo
  rw [if_neg a0, lg_pw i hi, lg_pw j hj, mul_pw, ← pw_mod, ← pw_mod i]
  congr 1; omega
/-- What is multiplied by an element other than 0 tells the element. -/
theorem mul_cancel (a c b : Nat) (ha : a < 256) (hc : c < 256) (hb : b < 256) (b0 : b ≠ 0) (h : mul a b = mul c b) : a = c := by
  have hq := quo_mul 1 b (by omega) hb b0
  have e1 : mul (mul a b) (quo 1 b) = a := by
    rw [mul_assoc a b _ ha hb (quo_lt _ _), mul_comm b, hq, mul_one a ha]
  have e2 : mul (mul c b) (quo 1 b) = c := by
    rw [mul_assoc c b _ hc hb (quo_lt _ _), mul_comm b, hq, mul_one c hc]
  rw [← e1, ← e2, h]
theorem quo_of (a b d : Nat) (ha : a < 256) (hb : b < 256) (b0 : b ≠ 0) (hd : d < 256) (h : mul d b = a) : quo a b = d :=
  mul_cancel _ _ b (quo_lt _ _) hd hb b0 ((quo_mul a b ha hb b0).trans h.symm)
theorem quo_ne (a b : Nat) (a0 : a ≠ 0) : quo a b ≠ 0 := by
  unfold quo
  rw [if_neg a0]
  exact (pw_bd _).1
theorem quo_inv (a b : Nat) (ha : a < 256) (hb : b < 256) (b0 : b ≠ 0) : quo a b = mul a (quo 1 b) := by
  refine quo_of a b _ ha hb b0 (mul_lt _ _) ?_
  rw [mul_assoc a _ b ha (quo_lt _ _) hb, quo_mul 1 b (by omega) hb b0, mul_one a ha]
theorem inv_inv (b : Nat) (hb : b < 256) (b0 : b ≠ 0) : quo 1 (quo 1 b) = b :=
  quo_of 1 _ b (by omega) (quo_lt _ _) (quo_ne 1 b (by omega)) hb (by rw [mul_comm]; exact quo_mul 1 b (by omega) hb b0)
theorem mul_quo (a b : Nat) (ha : a < 256) (hb : b < 256) (b0 : b ≠ 0) : quo (mul a b) b = a :=
  quo_of _ b a (mul_lt _ _) hb b0 ha rfl
theorem inv_inj (a b : Nat) (ha : a < 256) (hb : b < 256) (a0 : a ≠ 0) (b0 : b ≠ 0) (h : quo 1 a = quo 1 b) : a = b := by
  rw [← inv_inv a ha a0, ← inv_inv b hb b0, h]

/-! Powers. -/
theorem pow_lt (a n : Nat) : pow a n < 256 := by
  unfold pow
  split
  · omega
  · split
    · omega
    · exact (pw_bd _).2
theorem pow_pw (i n : Nat) (hi : i < 255) : pow (pw i) n = pw (i * n) := by
  unfold pow
  by_cases n0 : n = 0
  · subst n0; simp [pw]
  · rw [if_neg n0, if_neg (pw_bd i).1, lg_pw i hi, pw_mod, ← pw_mod (i * (n % 255)), ← pw_mod (i * n)]
    congr 1
    rw [Nat.mul_mod, Nat.mod_mod, ← Nat.mul_mod]
theorem pow_zero (a : Nat) : pow a 0 = 1 := by simp [pow]
theorem zero_pow (n : Nat) (h : n ≠ 0) : pow 0 n = 0 := by simp [pow, h]
theorem pow_succ (a n : Nat) (ha : a < 256) : pow a (n + 1) = mul (pow a n) a := by
  by_cases a0 : a = 0
  · subst a0; rw [zero_pow _ (by omega), mul_zero]
  · obtain ⟨i, hi, rfl⟩ := is_pw a ha a0
    rw [pow_pw i _ hi, pow_pw i _ hi, mul_pw]; rfl
theorem pow_add (a n m : Nat) (ha : a < 256) : pow a (n + m) = mul (pow a n) (pow a m) := by
  by_cases a0 : a = 0
  · subst a0
    by_cases n0 : n = 0
    · subst n0; rw [pow_zero, Nat.zero_add, one_mul _ (pow_lt _ _)]
    · rw [zero_pow n n0, zero_mul, zero_pow _ (by omega)]
  · obtain ⟨i, hi, rfl⟩ := is_pw a ha a0
    rw [pow_pw i _ hi, pow_pw i _ hi, pow_pw i _ hi, mul_pw, Nat.mul_add]
theorem pow_one (a : Nat) (ha : a < 256) : pow a 1 = a := by rw [pow_succ a 0 ha, pow_zero, one_mul a ha]
theorem pow_two (a : Nat) (ha : a < 256) : pow a 2 = mul a a := by rw [pow_succ a 1 ha, pow_one a ha]
theorem pow_255 (a : Nat) (ha : a < 256) (a0 : a ≠ 0) : pow a 255 = 1 := by
  obtain ⟨i, hi, rfl⟩ := is_pw a ha a0
  rw [pow_pw i _ hi, ← pw_mod, Nat.mul_mod_left]; rfl
theorem pow_256 (a : Nat) (ha : a < 256) : pow a 256 = a := by
  by_cases a0 : a = 0
  · subst a0; rfl
  · rw [pow_succ a 255 ha, pow_255 a ha a0, one_mul a ha]
theorem pow_mod (a n : Nat) (ha : a < 256) (a0 : a ≠ 0) : pow a (n % 255) = pow a n := by
  obtain ⟨i, hi, rfl⟩ := is_pw a ha a0
  rw [pow_pw i _ hi, pow_pw i _ hi, ← pw_mod (i * (n % 255)), ← pw_mod (i * n)]
  congr 1
  rw [Nat.mul_mod, Nat.mod_mod, ← Nat.mul_mod]
theorem pow_three (n : Nat) : pow 3 n = pw n := by
  rw [show (3 : Nat) = pw 1 from by decide +kernel, pow_pw 1 n (by omega), Nat.one_mul]
theorem pow_lg (a : Nat) (ha : a < 256) (a0 : a ≠ 0) : pow 3 (lg a) = a := by rw [pow_three, pw_lg a ha a0]
theorem pow_sq (a n : Nat) (ha : a < 256) : pow (mul a a) n = pow a (2 * n) := by
  by_cases a0 : a = 0
  · subst a0
    rw [mul_zero]
    by_cases n0 : n = 0
    · subst n0; rfl
    · rw [zero_pow n n0, zero_pow _ (by omega)]
  · obtain ⟨i, hi, rfl⟩ := is_pw a ha a0
    rw [mul_pw, ← pw_mod (i + i), pow_pw _ n (by omega), pow_pw i _ hi, ← pw_mod, ← pw_mod (i * (2 * n))]
    congr 1
    rw [Nat.mul_mod, Nat.mod_mod, ← Nat.mul_mod]
    congr 1
    rw [← Nat.mul_assoc]
    congr 1; omega

/-- One round of the power by squares. -/
theorem pow_step (o x m : Nat) (ho : o < 256) (hx : x < 256) : mul o (pow x m) = mul (if m % 2 = 1 then mul o x else o) (pow (mul x x) (m / 2)) := by
  rw [pow_sq x _ hx]
  split
  · rename_i h
    rw [mul_assoc o x _ ho hx (pow_lt _ _), mul_comm x, ← pow_succ x _ hx]
    congr 2; omega
  · congr 2; omega

/-! Squares. -/
theorem sq_add (a b : Nat) (ha : a < 256) (hb : b < 256) : pow (a ^^^ b) 2 = pow a 2 ^^^ pow b 2 := by
  have hx := xor_lt a b ha hb
  rw [pow_two _ hx, pow_two a ha, pow_two b hb, mul_add _ a b hx ha hb, add_mul a b a ha hb ha, add_mul a b b ha hb hb, mul_comm b a]
  rw [Nat.xor_assoc, ← Nat.xor_assoc (mul a b), Nat.xor_self, Nat.zero_xor]
theorem xor_zero_iff (a b : Nat) (h : a ^^^ b = 0) : a = b := by
  have e : (a ^^^ b) ^^^ b = a := by rw [Nat.xor_assoc, Nat.xor_self, Nat.xor_zero]
  rw [← e, h, Nat.zero_xor]
theorem sq_inj (a b : Nat) (ha : a < 256) (hb : b < 256) (h : pow a 2 = pow b 2) : a = b := by
  have hx := xor_lt a b ha hb
  have e : pow (a ^^^ b) 2 = 0 := by rw [sq_add a b ha hb, h, Nat.xor_self]
  rw [pow_two _ hx] at e
  refine xor_zero_iff a b (Decidable.byContradiction fun hn => mul_ne _ _ hn hn e)

/-! Logarithms. -/
theorem lg_mul (a b : Nat) (a0 : a ≠ 0) (b0 : b ≠ 0) : lg (mul a b) = (lg a + lg b) % 255 := by
  unfold mul
  rw [if_neg (by omega), lg_pw _ (by omega)]
theorem lg_pow3 (n : Nat) : lg (pow 3 n) = n % 255 := by
  rw [pow_three, ← pw_mod, lg_pw _ (by omega)]
theorem lg_inj (a b : Nat) (ha : a < 256) (hb : b < 256) (a0 : a ≠ 0) (b0 : b ≠ 0) (h : lg a = lg b) : a = b := by
  rw [← pw_lg a ha a0, ← pw_lg b hb b0, h]

/-- One round of the product bit by bit. -/
theorem mul_step (x y : Nat) (hx : x < 256) (hy : y < 256) : mul x y = (if y % 2 = 1 then x else 0) ^^^ mul (dbl x) (y / 2) := by
  have h2 : mul 2 (y / 2) = 2 * (y / 2) := by
    rw [mul_two _ (by omega)]
    unfold dbl
    rw [if_pos (by omega), Nat.xor_zero, Nat.mod_eq_of_lt (by omega)]
  have e : y = (y % 2) ^^^ (2 * (y / 2)) := by
    have hs : ∀ y, y < 256 → y = (y % 2) ^^^ (2 * (y / 2)) := by decide +kernel
    exact hs y hy
  have e2 : mul x (y % 2) = if y % 2 = 1 then x else 0 := by
    rcases Nat.mod_two_eq_zero_or_one y with h | h
    · rw [h, mul_zero]; rfl
    · rw [h, mul_one x hx]; rfl
  have e3 : mul x (2 * (y / 2)) = mul (dbl x) (y / 2) := by
    rw [← h2, ← mul_assoc x 2 _ hx (by omega) (by omega), mul_comm x 2, mul_two x hx]
  conv => lhs; rw [e]
  rw [mul_add x _ _ hx (by omega) (by omega), e2, e3]

end Gf
