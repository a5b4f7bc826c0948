/-
  Part 4 of the texts that the seat's proofs stand on; each part of it begins with its own sentence and conditions. Conditions: those that each theorem names.
-/
import Derived.Test.YtjifionpblpfoaaDoorOwnPack3
import Derived.Lib.SlBytesConst
import Derived.Laws.Strings
import Derived.DeepKeys

/-
  Numbers as digits of sixteen bits: products, and which of two is greater; roots, bit by bit; primes. Conditions: none; no function is named here.
-/
namespace Go.Proofs.YtjifionpblpfoaaDoor
open Pol (co Sm)

def dv : List Nat → Nat
  | [] => 0
  | d :: l => d + 65536 * dv l
def Dg (l : List Nat) : Prop := ∀ x ∈ l, x < 65536
theorem Dg.nil : Dg [] := fun _ h => by cases h
theorem Dg.cons {d : Nat} {l : List Nat} (hd : d < 65536) (h : Dg l) : Dg (d :: l) := fun x hx => by
  rcases List.mem_cons.1 hx with rfl | hx
  · exact hd
  · exact h x hx
theorem Dg.app {a b : List Nat} (ha : Dg a) (hb : Dg b) : Dg (a ++ b) := fun x hx => by
  rcases List.mem_append.1 hx with h | h
  · exact ha x h
  · exact hb x h
theorem Dg.at {l : List Nat} (h : Dg l) (i : Nat) : co l i < 65536 := by
  by_cases hi : i < l.length
  · unfold co; rw [List.getElem?_eq_getElem hi]; exact h _ (List.getElem_mem hi)
  · rw [Pol.co_out l i (by omega)]; omega
/-- Digits times a number, with a carry. -/
def tms (n : Nat) (c : Nat) (l : List Nat) : List Nat :=
  match l with
  | d :: l => (c + d * n) % 65536 :: tms n ((c + d * n) / 65536) l
  | [] => if c = 0 then [] else c % 65536 :: tms n (c / 65536) []
termination_by (l.length, c)
decreasing_by
  · exact Prod.Lex.left _ _ (by simp)
  · exact Prod.Lex.right _ (by omega)
theorem tms_cons (n c d : Nat) (l : List Nat) : tms n c (d :: l) = (c + d * n) % 65536 :: tms n ((c + d * n) / 65536) l := by rw [tms]
theorem tms_zero (n : Nat) : tms n 0 [] = [] := by rw [tms, if_pos rfl]
theorem tms_more (n c : Nat) (h : c ≠ 0) : tms n c [] = c % 65536 :: tms n (c / 65536) [] := by rw [tms, if_neg h]
theorem tms_nil (n : Nat) : ∀ k c, c < 65536 ^ k → dv (tms n c []) = c ∧ Dg (tms n c []) ∧ (tms n c []).length ≤ k
  | 0, c, h => by
    obtain rfl : c = 0 := by omega
    rw [tms_zero]
    exact ⟨rfl, Dg.nil, Nat.le_refl _⟩
  | k + 1, c, h => by
    by_cases h0 : c = 0
    · subst h0
      rw [tms_zero]
      exact ⟨rfl, Dg.nil, Nat.zero_le _⟩
    · obtain ⟨h1, h2, h3⟩ := tms_nil n k (c / 65536) (by rw [Nat.pow_succ] at h; omega)
      rw [tms_more n c h0]
      refine ⟨by rw [dv, h1]; omega, h2.cons (by omega), by rw [List.length_cons]; omega⟩
theorem carry_le {n c d : Nat} (hd : d < 65536) (hc : c ≤ n) : (c + d * n) / 65536 ≤ n := by
  have h : d * n ≤ 65535 * n := Nat.mul_le_mul_right _ (by omega)
  omega
theorem tms_ok (n : Nat) (hn : n < 65536 ^ 3) : ∀ (l : List Nat) (c : Nat), Dg l → c ≤ n → dv (tms n c l) = c + dv l * n ∧ Dg (tms n c l) ∧ (tms n c l).length ≤ l.length + 3
  | [], c, _, hc => by
    obtain ⟨h1, h2, h3⟩ := tms_nil n 3 c (by omega)
    exact ⟨by rw [h1, dv, Nat.zero_mul, Nat.add_zero], h2, by rw [List.length_nil]; omega⟩
  | d :: l, c, hl, hc => by
    have hd : d < 65536 := hl d (by simp)
    obtain ⟨h1, h2, h3⟩ := tms_ok n hn l ((c + d * n) / 65536) (fun x hx => hl x (by simp [hx])) (carry_le hd hc)
    rw [tms_cons]
    refine ⟨?_, h2.cons (by omega), by rw [List.length_cons, List.length_cons]; omega⟩
    rw [dv, dv, h1, Nat.mul_add, ← Nat.mul_assoc, Nat.add_mul, Nat.mul_assoc 65536]
    omega
/-- The product of factors. -/
def prd : List Nat → List Nat → List Nat
  | p, [] => p
  | p, f :: fs => prd (tms f 0 p) fs
theorem prd_ok : ∀ (fs p : List Nat), (∀ f ∈ fs, f < 65536 ^ 3) → Dg p → dv (prd p fs) = dv p * fs.foldl (· * ·) 1 ∧ Dg (prd p fs) ∧ (prd p fs).length ≤ p.length + 3 * fs.length := by
  intro fs
  have hfold : ∀ (l : List Nat) (a : Nat), l.foldl (· * ·) a = a * l.foldl (· * ·) 1 := fun l => by
    induction l with
    | nil => intro a; simp
    | cons x l ih => intro a; rw [List.foldl_cons, List.foldl_cons, ih (a * x), ih (1 * x), Nat.one_mul, Nat.mul_assoc]
  induction fs with
  | nil => intro p _ hp; exact ⟨by simp [prd], hp, by simp [prd]⟩
  | cons f fs ih =>
    intro p hf hp
    obtain ⟨h1, h2, h3⟩ := tms_ok f (hf f (by simp)) p 0 hp (Nat.zero_le _)
    obtain ⟨i1, i2, i3⟩ := ih (tms f 0 p) (fun g hg => hf g (by simp [hg])) h2
    refine ⟨?_, i2, by simp only [prd, List.length_cons]; omega⟩
    show dv (prd (tms f 0 p) fs) = _
    rw [i1, h1, List.foldl_cons, hfold fs (1 * f), Nat.zero_add, Nat.one_mul, Nat.mul_assoc]
def zs (n : Nat) : List Nat := List.replicate n 0
theorem dv_zs : ∀ n, dv (zs n) = 0
  | 0 => rfl
  | n + 1 => by
    show 0 + 65536 * dv (zs n) = 0
    rw [dv_zs n]
theorem dv_app (a b : List Nat) : dv (a ++ b) = dv a + 65536 ^ a.length * dv b := by
  induction a with
  | nil => simp [dv]
  | cons d a ih =>
    rw [List.cons_append, dv, dv, ih, List.length_cons, Nat.pow_succ, Nat.mul_add, ← Nat.mul_assoc, Nat.mul_comm 65536 (65536 ^ a.length)]
    omega
theorem dv_pad (a : List Nat) (n : Nat) : dv (a ++ zs n) = dv a := by rw [dv_app, dv_zs, Nat.mul_zero, Nat.add_zero]
theorem dv_lead (n p : Nat) : dv (zs n ++ [p]) = p * 65536 ^ n := by
  rw [dv_app, dv_zs, zs, List.length_replicate, Nat.zero_add, dv, dv, Nat.mul_zero, Nat.add_zero, Nat.mul_comm]
theorem dg_zs (n : Nat) : Dg (zs n) := fun x hx => by
  have := List.eq_of_mem_replicate hx
  omega
theorem dv_lt : ∀ (l : List Nat), Dg l → dv l < 65536 ^ l.length
  | [], _ => by simp [dv]
  | d :: l, h => by
    have h1 := dv_lt l (fun x hx => h x (by simp [hx]))
    have hd := h d (by simp)
    rw [dv, List.length_cons, Nat.pow_succ]
    omega
theorem dv_at (l : List Nat) (i : Nat) (h : i < l.length) : dv l = dv (l.take i) + 65536 ^ i * (co l i + 65536 * dv (l.drop (i + 1))) := by
  have e : l = l.take i ++ (co l i :: l.drop (i + 1)) := by
    rw [show co l i = l[i] from by simp [co, List.getElem?_eq_getElem h], ← List.drop_eq_getElem_cons h, List.take_append_drop]
  have hl : (l.take i).length = i := by rw [List.length_take]; omega
  conv => lhs; rw [e]
  rw [dv_app, hl, dv]
/-- Which of two is greater, from the top. -/
theorem dv_cmp (a b : List Nat) (ha : Dg a) (hb : Dg b) (hl : a.length = b.length) (i : Nat) (hi : i < a.length) (ht : ∀ j, i < j → j < a.length → co a j = co b j) (hne : co a i ≠ co b i) : dv b < dv a ↔ co b i < co a i := by
  have hd : a.drop (i + 1) = b.drop (i + 1) := by
    apply List.ext_getElem?
    intro j
    rw [List.getElem?_drop, List.getElem?_drop]
    by_cases hj : i + 1 + j < a.length
    · have h := ht (i + 1 + j) (by omega) hj
      unfold co at h
      rw [List.getElem?_eq_getElem hj, List.getElem?_eq_getElem (hl ▸ hj)] at h ⊢
      simpa using h
    · rw [List.getElem?_eq_none (by omega), List.getElem?_eq_none (by omega)]
  have h1 := dv_lt (a.take i) (fun x hx => ha x (List.mem_of_mem_take hx))
  have h2 := dv_lt (b.take i) (fun x hx => hb x (List.mem_of_mem_take hx))
  have l1 : (a.take i).length = i := by rw [List.length_take]; omega
  have l2 : (b.take i).length = i := by rw [List.length_take]; omega
  rw [l1] at h1
  rw [l2] at h2
  rw [dv_at a i hi, dv_at b i (by omega), hd]
  generalize dv (b.drop (i + 1)) = D at *
  generalize 65536 ^ i = Z at *
  generalize dv (a.take i) = x at *
  generalize dv (b.take i) = y at *
  generalize co a i = p at *
  generalize co b i = q at *
  constructor
  · intro h
    rcases Nat.lt_or_ge q p with h' | h'
    · exact h'
    · have : p < q := by omega
      have h3 : Z * (p + 65536 * D) + Z ≤ Z * (q + 65536 * D) := by
        rw [← Nat.mul_succ]
        exact Nat.mul_le_mul_left _ (by omega)
      omega
  · intro h
    have h3 : Z * (q + 65536 * D) + Z ≤ Z * (p + 65536 * D) := by
      rw [← Nat.mul_succ]
      exact Nat.mul_le_mul_left _ (by omega)
    omega
theorem list_same (a b : List Nat) (hl : a.length = b.length) (h : ∀ j, j < a.length → co a j = co b j) : a = b := by
  apply List.ext_getElem hl
  intro i h1 h2
  have := h i h1
  unfold co at this
  rw [List.getElem?_eq_getElem h1, List.getElem?_eq_getElem h2] at this
  simpa using this
/-- A root, bit by bit, of p times 2^(32 d). -/
def rtx (d p : Nat) : Nat → Nat → Nat
  | 0, r => r
  | k + 1, r => rtx d p k (if p * 65536 ^ (2 * d) < (r + 2 ^ k) ^ d then r else r + 2 ^ k)
theorem rtx_lt (d p : Nat) : ∀ k r, rtx d p k r < r + 2 ^ k
  | 0, r => by rw [rtx]; omega
  | k + 1, r => by
    rw [rtx, Nat.pow_succ]
    split
    · have := rtx_lt d p k r; omega
    · have := rtx_lt d p k (r + 2 ^ k); omega
/-- The primes found below n. -/
def prs : Nat → List Nat
  | 0 => []
  | n + 1 => if 2 ≤ n ∧ (prs n).all (fun q => n % q != 0) then prs n ++ [n] else prs n
def PR : List Nat := [2, 3, 5, 7, 11, 13, 17, 19, 23, 29, 31, 37, 41, 43, 47, 53, 59, 61, 67, 71, 73, 79, 83, 89, 97, 101, 103, 107, 109, 113, 127, 131, 137, 139, 149, 151, 157, 163, 167, 173, 179, 181, 191, 193, 197, 199, 211, 223, 227, 229, 233, 239, 241, 251, 257, 263, 269, 271, 277, 281, 283, 293, 307, 311]
theorem prs_last : prs 312 = PR := by decide +kernel
theorem prs_few : ∀ n, n < 312 → (prs n).length < 64 := by decide +kernel
end Go.Proofs.YtjifionpblpfoaaDoor

/-
  SHA-256 in plain numbers: words, blocks, rounds; digests in order; texts one behind the other. Conditions: none; no function is named here.
-/
namespace Go.Proofs.YtjifionpblpfoaaDoor
open Pol (co Sm)

/-- A word turned to the right. -/
def tw (x n : Nat) : Nat := x / 2 ^ n ||| x * 2 ^ (32 - n) % 4294967296
theorem tw_lt {x n : Nat} (h : x < 4294967296) : tw x n < 4294967296 := Nat.or_lt_two_pow (n := 32) (Nat.lt_of_le_of_lt (Nat.div_le_self _ _) h) (Nat.mod_lt _ (by decide))
def sg0 (x : Nat) : Nat := tw x 7 ^^^ tw x 18 ^^^ x / 8
def sg1 (x : Nat) : Nat := tw x 17 ^^^ tw x 19 ^^^ x / 1024
theorem sg0_lt {x : Nat} (h : x < 4294967296) : sg0 x < 4294967296 := Nat.xor_lt_two_pow (n := 32) (Nat.xor_lt_two_pow (n := 32) (tw_lt h) (tw_lt h)) (Nat.lt_of_le_of_lt (Nat.div_le_self _ _) h)
theorem sg1_lt {x : Nat} (h : x < 4294967296) : sg1 x < 4294967296 := Nat.xor_lt_two_pow (n := 32) (Nat.xor_lt_two_pow (n := 32) (tw_lt h) (tw_lt h)) (Nat.lt_of_le_of_lt (Nat.div_le_self _ _) h)
/-- The first words of a block, and those that follow. -/
def wnx (w : List Nat) (i : Nat) : Nat := (co w (i - 16) + co w (i - 7) + sg0 (co w (i - 15)) + sg1 (co w (i - 2))) % 4294967296
def wl (f : Nat → Nat) : Nat → List Nat
  | 0 => []
  | i + 1 => wl f i ++ [if i < 16 then f i else wnx (wl f i) i]
theorem wl_len (f : Nat → Nat) : ∀ n, (wl f n).length = n
  | 0 => rfl
  | n + 1 => by rw [wl, List.length_append, wl_len f n]; rfl
def W32 (l : List Nat) : Prop := ∀ x ∈ l, x < 4294967296
theorem W32.nil : W32 [] := fun _ h => by cases h
theorem W32.app {a b : List Nat} (ha : W32 a) (hb : W32 b) : W32 (a ++ b) := fun x hx => by
  rcases List.mem_append.1 hx with h | h
  · exact ha x h
  · exact hb x h
theorem W32.one {x : Nat} (h : x < 4294967296) : W32 [x] := fun y hy => by
  have : y = x := by simpa using hy
  omega
theorem W32.at {l : List Nat} (h : W32 l) (i : Nat) : co l i < 4294967296 := by
  by_cases hi : i < l.length
  · unfold co; rw [List.getElem?_eq_getElem hi]; exact h _ (List.getElem_mem hi)
  · rw [Pol.co_out l i (by omega)]; omega
theorem wl_w32 (f : Nat → Nat) (hf : ∀ i, f i < 4294967296) : ∀ n, W32 (wl f n)
  | 0 => W32.nil
  | n + 1 => by
    rw [wl]
    refine (wl_w32 f hf n).app (W32.one ?_)
    split
    · exact hf n
    · exact Nat.mod_lt _ (by decide)
def KK : List Nat := PR.map fun p => rtx 3 p 37 0 % 4294967296
def HH : List Nat := (PR.take 8).map fun p => rtx 2 p 37 0 % 4294967296
/-- A round. -/
def one (k w : Nat) (s : List Nat) : Nat := (co s 7 + (tw (co s 4) 6 ^^^ tw (co s 4) 11 ^^^ tw (co s 4) 25) + ((co s 4 &&& co s 5) ^^^ ((4294967295 - co s 4) &&& co s 6)) + k + w) % 4294967296
def two (s : List Nat) : Nat := ((tw (co s 0) 2 ^^^ tw (co s 0) 13 ^^^ tw (co s 0) 22) + ((co s 0 &&& co s 1) ^^^ (co s 0 &&& co s 2) ^^^ (co s 1 &&& co s 2))) % 4294967296
def rnd (k w : Nat) (s : List Nat) : List Nat := [(one k w s + two s) % 4294967296, co s 0, co s 1, co s 2, (co s 3 + one k w s) % 4294967296, co s 4, co s 5, co s 6]
def rds (K w h : List Nat) : Nat → List Nat
  | 0 => h
  | i + 1 => rnd (co K i) (co w i) (rds K w h i)
/-- The state behind a block; behind n of them. -/
def sumw (h s : List Nat) (i : Nat) : Nat := (co h i + co s i) % 4294967296
def blk (K : List Nat) (f : Nat → Nat) (h : List Nat) : List Nat := (List.range 8).map (sumw h (rds K (wl f 64) h 64))
/-- Four bytes as a word. -/
def word (t : List Nat) (j : Nat) : Nat := co t j * 16777216 + co t (j + 1) * 65536 + co t (j + 2) * 256 + co t (j + 3)
def hsh (H K t : List Nat) : Nat → List Nat
  | 0 => H
  | n + 1 => blk K (fun i => word t (64 * n + 4 * i)) (hsh H K t n)
/-- The bytes that are digested. -/
def padz (n : Nat) : Nat := (119 - n % 64) % 64
def len8 (n i : Nat) : Nat := 8 * n / 256 ^ (7 - i) % 256
def padded (l : List Nat) : List Nat := l ++ [128] ++ List.replicate (padz l.length) 0 ++ (List.range 8).map (len8 l.length)
theorem padded_len (l : List Nat) : (padded l).length % 64 = 0 ∧ (padded l).length = l.length + 9 + padz l.length := by
  unfold padded
  simp only [List.length_append, List.length_replicate, List.length_map, List.length_range, List.length_singleton]
  unfold padz
  omega
def digB (h : List Nat) (i : Nat) : Nat := co h (i / 4) / 2 ^ (24 - 8 * (i % 4)) % 256
/-- With any constants; with those that the document names. -/
def shaK (H K l : List Nat) : List Nat := (List.range 32).map (digB (hsh H K (padded l) ((padded l).length / 64)))
def sha (l : List Nat) : List Nat := shaK HH KK l
theorem shaK_len (H K l : List Nat) : (shaK H K l).length = 32 := by unfold shaK; simp
theorem shaK_sm (H K l : List Nat) : Sm (shaK H K l) := Pol.co_lt_of fun x hx => by
  obtain ⟨i, _, rfl⟩ := List.mem_map.1 hx
  exact Nat.mod_lt _ (by decide)
theorem sha_len (l : List Nat) : (sha l).length = 32 := shaK_len _ _ l
theorem sha_sm (l : List Nat) : Sm (sha l) := shaK_sm _ _ l
/-! ### Words stay words -/
theorem tab_w32 (f : Nat → Nat) (n : Nat) (h : ∀ i, f i < 4294967296) : W32 ((List.range n).map f) := fun x hx => by
  obtain ⟨i, _, rfl⟩ := List.mem_map.1 hx
  exact h i
theorem blk_len (K : List Nat) (f : Nat → Nat) (h : List Nat) : (blk K f h).length = 8 := by unfold blk; simp
theorem blk_w32 (K : List Nat) (f : Nat → Nat) (h : List Nat) : W32 (blk K f h) := tab_w32 _ _ (fun i => Nat.mod_lt _ (by decide))
theorem hsh_len (H K t : List Nat) (hH : H.length = 8) : ∀ n, (hsh H K t n).length = 8
  | 0 => hH
  | _ + 1 => blk_len _ _ _
theorem hsh_w32 (H K t : List Nat) (hH : W32 H) : ∀ n, W32 (hsh H K t n)
  | 0 => hH
  | _ + 1 => blk_w32 _ _ _
theorem rnd_len (k w : Nat) (s : List Nat) : (rnd k w s).length = 8 := rfl
theorem rnd_w32 {k w : Nat} {s : List Nat} (h : W32 s) : W32 (rnd k w s) := fun x hx => by
  unfold rnd at hx
  simp only [List.mem_cons, List.not_mem_nil, or_false] at hx
  rcases hx with rfl | rfl | rfl | rfl | rfl | rfl | rfl | rfl
  · exact Nat.mod_lt _ (by decide)
  · exact h.at 0
  · exact h.at 1
  · exact h.at 2
  · exact Nat.mod_lt _ (by decide)
  · exact h.at 4
  · exact h.at 5
  · exact h.at 6
theorem rds_len (K w h : List Nat) (hh : h.length = 8) : ∀ n, (rds K w h n).length = 8
  | 0 => hh
  | _ + 1 => rnd_len _ _ _
theorem rds_w32 (K w h : List Nat) (hh : W32 h) : ∀ n, W32 (rds K w h n)
  | 0 => hh
  | n + 1 => rnd_w32 (rds_w32 K w h hh n)
/-- Which one is ahead. -/
def lss : List Nat → List Nat → Bool
  | x :: a, y :: b => if x = y then lss a b else decide (x < y)
  | _, _ => false
theorem lss_at : ∀ (a b : List Nat) (i : Nat), a.length = b.length → i < a.length → (∀ j, j < i → co a j = co b j) → co a i ≠ co b i → lss a b = decide (co a i < co b i)
  | x :: a, y :: b, 0, _, _, _, hne => by
    have hxy : x ≠ y := hne
    rw [lss, if_neg hxy]
    rfl
  | x :: a, y :: b, i + 1, hl, hi, hs, hne => by
    have hxy : x = y := hs 0 (by omega)
    rw [lss, if_pos hxy, lss_at a b i (by simpa using hl) (by simpa using hi) (fun j hj => by have := hs (j + 1) (by omega); rwa [Pol.co_succ, Pol.co_succ] at this) (by rwa [Pol.co_succ, Pol.co_succ] at hne), Pol.co_succ, Pol.co_succ]
  | [], _, _, _, hi, _, _ => by simp at hi
  | _ :: _, [], _, hl, _, _, _ => by simp at hl
theorem lss_self : ∀ a : List Nat, lss a a = false
  | [] => rfl
  | x :: a => by rw [lss, if_pos rfl, lss_self a]
theorem lss_asym : ∀ a b : List Nat, lss a b = true → lss b a = false
  | x :: a, y :: b, h => by
    rw [lss] at h ⊢
    by_cases e : x = y
    · rw [if_pos e] at h
      rw [if_pos e.symm]
      exact lss_asym a b h
    · rw [if_neg e] at h
      rw [if_neg (fun e' => e e'.symm)]
      have := of_decide_eq_true h
      exact decide_eq_false (by omega)
  | [], _, h => by cases h
  | _ :: _, [], h => by cases h
theorem lss_total : ∀ a b : List Nat, a.length = b.length → lss a b = false → lss b a = false → a = b
  | [], [], _, _, _ => rfl
  | x :: a, y :: b, hl, h1, h2 => by
    rw [lss] at h1 h2
    by_cases e : x = y
    · rw [if_pos e] at h1
      rw [if_pos e.symm] at h2
      rw [e, lss_total a b (by simpa using hl) h1 h2]
    · rw [if_neg e] at h1
      rw [if_neg (fun e' => e e'.symm)] at h2
      have := of_decide_eq_false h1
      have := of_decide_eq_false h2
      omega
  | [], _ :: _, hl, _, _ => by simp at hl
  | _ :: _, [], hl, _, _ => by simp at hl
theorem lss_trans : ∀ a b c : List Nat, lss a b = true → lss b c = true → lss a c = true
  | x :: a, y :: b, z :: c, h1, h2 => by
    rw [lss] at h1 h2 ⊢
    by_cases e1 : x = y
    · rw [if_pos e1] at h1
      by_cases e2 : y = z
      · rw [if_pos e2] at h2
        rw [if_pos (e1.trans e2)]
        exact lss_trans a b c h1 h2
      · rw [if_neg e2] at h2
        rw [if_neg (by omega), e1]
        exact h2
    · rw [if_neg e1] at h1
      have h1' := of_decide_eq_true h1
      by_cases e2 : y = z
      · rw [if_neg (by omega)]
        exact decide_eq_true (by omega)
      · rw [if_neg e2] at h2
        have := of_decide_eq_true h2
        rw [if_neg (by omega)]
        exact decide_eq_true (by omega)
  | [], _, _, h, _ => by cases h
  | _ :: _, [], _, h, _ => by cases h
  | _ :: _, _ :: _, [], _, h => by cases h
/-- Texts, each with its length ahead. -/
def jn (ls : List (List Nat)) : List Nat := (ls.map vt).flatten
theorem jn_cons (t : List Nat) (ls : List (List Nat)) : jn (t :: ls) = vt t ++ jn ls := rfl
theorem jn_snoc (ls : List (List Nat)) (t : List Nat) : jn (ls ++ [t]) = jn ls ++ vt t := by unfold jn; simp
theorem vt_ne (t : List Nat) : vt t ≠ [] := fun e => by
  have h := vn_pos t.length
  have h0 := congrArg List.length e
  unfold vt at h0
  rw [List.length_append, List.length_nil] at h0
  omega
/-- There is one way to read them. -/
theorem jn_inj : ∀ (ls ks : List (List Nat)), (∀ t ∈ ls, t.length < 2 ^ 64) → (∀ t ∈ ks, t.length < 2 ^ 64) → jn ls = jn ks → ls = ks
  | [], [], _, _, _ => rfl
  | [], k :: ks, _, _, h => by
    exact absurd (List.append_eq_nil_iff.1 (show vt k ++ jn ks = [] from h.symm)).1 (vt_ne k)
  | l :: ls, [], _, _, h => by
    exact absurd (List.append_eq_nil_iff.1 (show vt l ++ jn ls = [] from h)).1 (vt_ne l)
  | l :: ls, k :: ks, hl, hk, h => by
    rw [jn_cons, jn_cons] at h
    have h1 := rdT_vt (2 ^ 64) l (jn ls) (hl l (by simp))
    have h2 := rdT_vt (2 ^ 64) k (jn ks) (hk k (by simp))
    have hl' := hl l (by simp)
    have hk' := hk k (by simp)
    rw [if_neg (by omega)] at h1 h2
    rw [h, h2] at h1
    injection h1 with e1 e2
    rw [e1, jn_inj ls ks (fun t ht => hl t (by simp [ht])) (fun t ht => hk t (by simp [ht])) e2.symm]
end Go.Proofs.YtjifionpblpfoaaDoor

/-
  Numbers of 32 bits as the cells of an array's block, as a function of the place. Conditions: none; no function is named here.
-/
namespace Go.Proofs.YtjifionpblpfoaaDoor
open Go.RowKit
open Pol (co Sm)

/-- Numbers of 32 bits as cells, by a function of the place. -/
def dt (n : Nat) (f : Nat → Nat) : Array Value := Array.ofFn (n := n) fun i => Value.int .u32 ((f i.val : Nat) : Int)
theorem dt_size (n : Nat) (f : Nat → Nat) : (dt n f).size = n := by simp [dt]
theorem dt_at (n : Nat) (f : Nat → Nat) (i : Nat) (h : i < n) : (dt n f)[i]? = some (.int .u32 ((f i : Nat) : Int)) := by simp [dt, h]
theorem dt_set (n : Nat) (f : Nat → Nat) (k v : Nat) : (dt n f).setIfInBounds k (.int .u32 (v : Int)) = dt n (upd f k v) := by
  apply Array.ext (by simp [dt])
  intro i h1 h2
  have hi : i < (dt n f).size := by simpa using h1
  rw [Array.getElem_setIfInBounds hi]
  simp only [dt, Array.getElem_ofFn, upd]
  by_cases e : k = i
  · subst e; simp
  · rw [if_neg e, if_neg (fun h => e h.symm)]
theorem dt_congr (n : Nat) {f g : Nat → Nat} (h : ∀ i, i < n → f i = g i) : dt n f = dt n g := by
  apply Array.ext (by simp [dt])
  intro i h1 h2
  have hi : i < n := by simpa [dt] using h1
  simp only [dt, Array.getElem_ofFn, h i hi]
theorem dt_one (n : Nat) (f : Nat → Nat) : (dt n f).all (·.oneCell') = true := by
  rw [Array.all_eq_true]; intro i h; simp [dt, Value.oneCell']
theorem dt_zero (n : Nat) : dt n (fun _ => 0) = Array.replicate n (.int .u32 0) := by
  apply Array.ext (by simp [dt])
  intro i h1 h2
  simp [dt]
/-- The block of an array of n such numbers; its type. -/
def WBlk (T : TypeId) (n : Nat) (w : World) (g : Nat) (f : Nat → Nat) : Prop := w.heap[g]? = some (.cells (dt n f) T (0, 0))
section
variable {T : TypeId} {n : Nat}
theorem WBlk.cell {w : World} {g : Nat} {f : Nat → Nat} (h : WBlk T n w g f) (i : Nat) (hi : i < n) : w.cell? ⟨g, i, none⟩ = some (.int .u32 ((f i : Nat) : Int)) := by rw [cell_of_row w g i _ _ _ h, dt_at n f i hi]
theorem WBlk.frozen {w : World} {g : Nat} {f : Nat → Nat} (h : WBlk T n w g f) (i : Nat) : w.frozen? ⟨g, i, none⟩ = false := frozen_of_row w g i _ _ h
theorem WBlk.store {w : World} {g : Nat} {f : Nat → Nat} (h : WBlk T n w g f) (k v : Nat) : WBlk T n (w.setCell ⟨g, k, none⟩ (.int .u32 (v : Int))) g (upd f k v) := by
  unfold WBlk
  rw [heap_setCell_same w g k _ _ _ h, dt_set]
theorem WBlk.congr {w : World} {g : Nat} {f f' : Nat → Nat} (h : WBlk T n w g f) (hf : ∀ i, i < n → f i = f' i) : WBlk T n w g f' := by
  unfold WBlk at *
  rw [h, dt_congr n hf]
theorem WBlk.lt {w : World} {g : Nat} {f : Nat → Nat} (h : WBlk T n w g f) : g < w.heap.size := by
  rcases Nat.lt_or_ge g w.heap.size with hlt | hge
  · exact hlt
  · unfold WBlk at h; rw [Array.getElem?_eq_none hge] at h; cases h
theorem WBlk.ext {w w' : World} {g : Nat} {f : Nat → Nat} (h : WBlk T n w g f) (hx : Ext w w') : WBlk T n w' g f := (hx.below.block g h.lt).trans h
theorem WBlk.drewN {w : World} {g : Nat} {f : Nat → Nat} (h : WBlk T n w g f) (q : Nat) : WBlk T n (w.drewN q) g f := h
theorem WBlk.keep {w w' : World} {g : Nat} {f : Nat → Nat} {row : Option Nat} (h : WBlk T n w g f) (hg : w.grownBy w' row) (hne : some g ≠ row) : WBlk T n w' g f := (hg.block g h.lt hne).trans h
theorem WBlk.new (w : World) (f : Nat → Nat) : WBlk T n (w.alloc (.cells (dt n f) T)) w.heap.size f := heap_alloc_new w _
theorem WBlk.setRow {w : World} {g : Nat} {f f' : Nat → Nat} (h : WBlk T n w g f) : WBlk T n (w.setRow g (dt n f')) g f' := setRow_heap w g _ _ _ _ h
end
end Go.Proofs.YtjifionpblpfoaaDoor

/-
  Where layer 10's constants lie. Conditions: none.
-/
namespace Go.Proofs.YtjifionpblpfoaaDoor
open Go.RowKit
open Pol (co Sm)

/-- The tables of layer 10, as start-up lays them. -/
def GL (w : World) : Prop := (∃ T, w.heap[0]? = some (.cells (dt 8 (co HH)) T (0, 0))) ∧ ∃ T, w.heap[1]? = some (.cells (dt 64 (co KK)) T (0, 0))
theorem lt_of_some {w : World} {g : Nat} {o : Obj} (h : w.heap[g]? = some o) : g < w.heap.size := (Array.getElem?_eq_some_iff.1 h).1
theorem GL.ext {w w' : World} (h : GL w) (hx : Ext w w') : GL w' := by
  obtain ⟨⟨T, h1⟩, ⟨U, h2⟩⟩ := h
  exact ⟨⟨T, (hx.below.block _ (lt_of_some h1)).trans h1⟩, ⟨U, (hx.below.block _ (lt_of_some h2)).trans h2⟩⟩
theorem GL.drewN {w : World} (h : GL w) (q : Nat) : GL (w.drewN q) := h
end Go.Proofs.YtjifionpblpfoaaDoor

/-
  SHA-256's constants in digits. Conditions: none; no function is named here.
-/
namespace Go.Proofs.YtjifionpblpfoaaDoor

theorem HH_is : HH = [1779033703, 3144134277, 1013904242, 2773480762, 1359893119, 2600822924, 528734635, 1541459225] := by decide +kernel
theorem KK_is : KK = [1116352408, 1899447441, 3049323471, 3921009573, 961987163, 1508970993, 2453635748, 2870763221, 3624381080, 310598401, 607225278, 1426881987, 1925078388, 2162078206, 2614888103, 3248222580, 3835390401, 4022224774, 264347078, 604807628, 770255983, 1249150122, 1555081692, 1996064986, 2554220882, 2821834349, 2952996808, 3210313671, 3336571891, 3584528711, 113926993, 338241895, 666307205, 773529912, 1294757372, 1396182291, 1695183700, 1986661051, 2177026350, 2456956037, 2730485921, 2820302411, 3259730800, 3345764771, 3516065817, 3600352804, 4094571909, 275423344, 430227734, 506948616, 659060556, 883997877, 958139571, 1322822218, 1537002063, 1747873779, 1955562222, 2024104815, 2227730452, 2361852424, 2428436474, 2756734187, 3204031479, 3329325298] := by decide +kernel
theorem HH_w32 : W32 HH := by rw [HH_is]; intro x hx; revert x; decide +kernel
theorem KK_w32 : W32 KK := by rw [KK_is]; intro x hx; revert x; decide +kernel
end Go.Proofs.YtjifionpblpfoaaDoor

/-
  The digest of "abc" in digits, step by step. Conditions: none; no function is named here.
-/
namespace Go.Proofs.YtjifionpblpfoaaDoor
open Pol (co Sm)

namespace Abc
def H : List Nat := [1779033703, 3144134277, 1013904242, 2773480762, 1359893119, 2600822924, 528734635, 1541459225]
def K : List Nat := [1116352408, 1899447441, 3049323471, 3921009573, 961987163, 1508970993, 2453635748, 2870763221, 3624381080, 310598401, 607225278, 1426881987, 1925078388, 2162078206, 2614888103, 3248222580, 3835390401, 4022224774, 264347078, 604807628, 770255983, 1249150122, 1555081692, 1996064986, 2554220882, 2821834349, 2952996808, 3210313671, 3336571891, 3584528711, 113926993, 338241895, 666307205, 773529912, 1294757372, 1396182291, 1695183700, 1986661051, 2177026350, 2456956037, 2730485921, 2820302411, 3259730800, 3345764771, 3516065817, 3600352804, 4094571909, 275423344, 430227734, 506948616, 659060556, 883997877, 958139571, 1322822218, 1537002063, 1747873779, 1955562222, 2024104815, 2227730452, 2361852424, 2428436474, 2756734187, 3204031479, 3329325298]
def t : List Nat := [97, 98, 99, 128, 0, 0, 0, 0, 0, 0, 0, 0, 0, 0, 0, 0, 0, 0, 0, 0, 0, 0, 0, 0, 0, 0, 0, 0, 0, 0, 0, 0, 0, 0, 0, 0, 0, 0, 0, 0, 0, 0, 0, 0, 0, 0, 0, 0, 0, 0, 0, 0, 0, 0, 0, 0, 0, 0, 0, 0, 0, 0, 0, 24]
def f : Nat → Nat := fun i => word t (64 * 0 + 4 * i)
theorem wstep {i v : Nat} {l : List Nat} (h : wl f i = l) (hv : (if i < 16 then f i else wnx l i) = v) : wl f (i + 1) = l ++ [v] := by
  rw [wl, h, hv]
theorem rstep {i : Nat} {w l m : List Nat} {k x : Nat} (h : rds K w H i = l) (hk : co K i = k) (hx : co w i = x) (hm : rnd k x l = m) : rds K w H (i + 1) = m := by
  rw [rds, h, hk, hx, hm]
theorem w0 : wl f 0 = [] := rfl
theorem w1 : wl f 1 = [1633837952] := wstep w0 (by decide +kernel)
theorem w2 : wl f 2 = [1633837952, 0] := wstep w1 (by decide +kernel)
theorem w3 : wl f 3 = [1633837952, 0, 0] := wstep w2 (by decide +kernel)
theorem w4 : wl f 4 = [1633837952, 0, 0, 0] := wstep w3 (by decide +kernel)
theorem w5 : wl f 5 = [1633837952, 0, 0, 0, 0] := wstep w4 (by decide +kernel)
theorem w6 : wl f 6 = [1633837952, 0, 0, 0, 0, 0] := wstep w5 (by decide +kernel)
theorem w7 : wl f 7 = [1633837952, 0, 0, 0, 0, 0, 0] := wstep w6 (by decide +kernel)
theorem w8 : wl f 8 = [1633837952, 0, 0, 0, 0, 0, 0, 0] := wstep w7 (by decide +kernel)
theorem w9 : wl f 9 = [1633837952, 0, 0, 0, 0, 0, 0, 0, 0] := wstep w8 (by decide +kernel)
theorem w10 : wl f 10 = [1633837952, 0, 0, 0, 0, 0, 0, 0, 0, 0] := wstep w9 (by decide +kernel)
theorem w11 : wl f 11 = [1633837952, 0, 0, 0, 0, 0, 0, 0, 0, 0, 0] := wstep w10 (by decide +kernel)
theorem w12 : wl f 12 = [1633837952, 0, 0, 0, 0, 0, 0, 0, 0, 0, 0, 0] := wstep w11 (by decide +kernel)
theorem w13 : wl f 13 = [1633837952, 0, 0, 0, 0, 0, 0, 0, 0, 0, 0, 0, 0] := wstep w12 (by decide +kernel)
theorem w14 : wl f 14 = [1633837952, 0, 0, 0, 0, 0, 0, 0, 0, 0, 0, 0, 0, 0] := wstep w13 (by decide +kernel)
theorem w15 : wl f 15 = [1633837952, 0, 0, 0, 0, 0, 0, 0, 0, 0, 0, 0, 0, 0, 0] := wstep w14 (by decide +kernel)
theorem w16 : wl f 16 = [1633837952, 0, 0, 0, 0, 0, 0, 0, 0, 0, 0, 0, 0, 0, 0, 24] := wstep w15 (by decide +kernel)
theorem w17 : wl f 17 = [1633837952, 0, 0, 0, 0, 0, 0, 0, 0, 0, 0, 0, 0, 0, 0, 24, 1633837952] := wstep w16 (by decide +kernel)
theorem w18 : wl f 18 = [1633837952, 0, 0, 0, 0, 0, 0, 0, 0, 0, 0, 0, 0, 0, 0, 24, 1633837952, 983040] := wstep w17 (by decide +kernel)
theorem w19 : wl f 19 = [1633837952, 0, 0, 0, 0, 0, 0, 0, 0, 0, 0, 0, 0, 0, 0, 24, 1633837952, 983040, 2108187653] := wstep w18 (by decide +kernel)
theorem w20 : wl f 20 = [1633837952, 0, 0, 0, 0, 0, 0, 0, 0, 0, 0, 0, 0, 0, 0, 24, 1633837952, 983040, 2108187653, 1610613702] := wstep w19 (by decide +kernel)
theorem w21 : wl f 21 = [1633837952, 0, 0, 0, 0, 0, 0, 0, 0, 0, 0, 0, 0, 0, 0, 24, 1633837952, 983040, 2108187653, 1610613702, 1050508152] := wstep w20 (by decide +kernel)
theorem w22 : wl f 22 = [1633837952, 0, 0, 0, 0, 0, 0, 0, 0, 0, 0, 0, 0, 0, 0, 24, 1633837952, 983040, 2108187653, 1610613702, 1050508152, 25426944] := wstep w21 (by decide +kernel)
theorem w23 : wl f 23 = [1633837952, 0, 0, 0, 0, 0, 0, 0, 0, 0, 0, 0, 0, 0, 0, 24, 1633837952, 983040, 2108187653, 1610613702, 1050508152, 25426944, 316456923] := wstep w22 (by decide +kernel)
theorem w24 : wl f 24 = [1633837952, 0, 0, 0, 0, 0, 0, 0, 0, 0, 0, 0, 0, 0, 0, 24, 1633837952, 983040, 2108187653, 1610613702, 1050508152, 25426944, 316456923, 3806512014] := wstep w23 (by decide +kernel)
theorem w25 : wl f 25 = [1633837952, 0, 0, 0, 0, 0, 0, 0, 0, 0, 0, 0, 0, 0, 0, 24, 1633837952, 983040, 2108187653, 1610613702, 1050508152, 25426944, 316456923, 3806512014, 3357629466] := wstep w24 (by decide +kernel)
theorem w26 : wl f 26 = [1633837952, 0, 0, 0, 0, 0, 0, 0, 0, 0, 0, 0, 0, 0, 0, 24, 1633837952, 983040, 2108187653, 1610613702, 1050508152, 25426944, 316456923, 3806512014, 3357629466, 3073800610] := wstep w25 (by decide +kernel)
theorem w27 : wl f 27 = [1633837952, 0, 0, 0, 0, 0, 0, 0, 0, 0, 0, 0, 0, 0, 0, 24, 1633837952, 983040, 2108187653, 1610613702, 1050508152, 25426944, 316456923, 3806512014, 3357629466, 3073800610, 3854317833] := wstep w26 (by decide +kernel)
theorem w28 : wl f 28 = [1633837952, 0, 0, 0, 0, 0, 0, 0, 0, 0, 0, 0, 0, 0, 0, 24, 1633837952, 983040, 2108187653, 1610613702, 1050508152, 25426944, 316456923, 3806512014, 3357629466, 3073800610, 3854317833, 845560923] := wstep w27 (by decide +kernel)
theorem w29 : wl f 29 = [1633837952, 0, 0, 0, 0, 0, 0, 0, 0, 0, 0, 0, 0, 0, 0, 24, 1633837952, 983040, 2108187653, 1610613702, 1050508152, 25426944, 316456923, 3806512014, 3357629466, 3073800610, 3854317833, 845560923, 2636160359] := wstep w28 (by decide +kernel)
theorem w30 : wl f 30 = [1633837952, 0, 0, 0, 0, 0, 0, 0, 0, 0, 0, 0, 0, 0, 0, 24, 1633837952, 983040, 2108187653, 1610613702, 1050508152, 25426944, 316456923, 3806512014, 3357629466, 3073800610, 3854317833, 845560923, 2636160359, 3968280267] := wstep w29 (by decide +kernel)
theorem w31 : wl f 31 = [1633837952, 0, 0, 0, 0, 0, 0, 0, 0, 0, 0, 0, 0, 0, 0, 24, 1633837952, 983040, 2108187653, 1610613702, 1050508152, 25426944, 316456923, 3806512014, 3357629466, 3073800610, 3854317833, 845560923, 2636160359, 3968280267, 1881225380] := wstep w30 (by decide +kernel)
theorem w32 : wl f 32 = [1633837952, 0, 0, 0, 0, 0, 0, 0, 0, 0, 0, 0, 0, 0, 0, 24, 1633837952, 983040, 2108187653, 1610613702, 1050508152, 25426944, 316456923, 3806512014, 3357629466, 3073800610, 3854317833, 845560923, 2636160359, 3968280267, 1881225380, 3552024379] := wstep w31 (by decide +kernel)
theorem w33 : wl f 33 = [1633837952, 0, 0, 0, 0, 0, 0, 0, 0, 0, 0, 0, 0, 0, 0, 24, 1633837952, 983040, 2108187653, 1610613702, 1050508152, 25426944, 316456923, 3806512014, 3357629466, 3073800610, 3854317833, 845560923, 2636160359, 3968280267, 1881225380, 3552024379, 2482346367] := wstep w32 (by decide +kernel)
theorem w34 : wl f 34 = [1633837952, 0, 0, 0, 0, 0, 0, 0, 0, 0, 0, 0, 0, 0, 0, 24, 1633837952, 983040, 2108187653, 1610613702, 1050508152, 25426944, 316456923, 3806512014, 3357629466, 3073800610, 3854317833, 845560923, 2636160359, 3968280267, 1881225380, 3552024379, 2482346367, 996719219] := wstep w33 (by decide +kernel)
theorem w35 : wl f 35 = [1633837952, 0, 0, 0, 0, 0, 0, 0, 0, 0, 0, 0, 0, 0, 0, 24, 1633837952, 983040, 2108187653, 1610613702, 1050508152, 25426944, 316456923, 3806512014, 3357629466, 3073800610, 3854317833, 845560923, 2636160359, 3968280267, 1881225380, 3552024379, 2482346367, 996719219, 2952069057] := wstep w34 (by decide +kernel)
theorem w36 : wl f 36 = [1633837952, 0, 0, 0, 0, 0, 0, 0, 0, 0, 0, 0, 0, 0, 0, 24, 1633837952, 983040, 2108187653, 1610613702, 1050508152, 25426944, 316456923, 3806512014, 3357629466, 3073800610, 3854317833, 845560923, 2636160359, 3968280267, 1881225380, 3552024379, 2482346367, 996719219, 2952069057, 4043988066] := wstep w35 (by decide +kernel)
theorem w37 : wl f 37 = [1633837952, 0, 0, 0, 0, 0, 0, 0, 0, 0, 0, 0, 0, 0, 0, 24, 1633837952, 983040, 2108187653, 1610613702, 1050508152, 25426944, 316456923, 3806512014, 3357629466, 3073800610, 3854317833, 845560923, 2636160359, 3968280267, 1881225380, 3552024379, 2482346367, 996719219, 2952069057, 4043988066, 176896406] := wstep w36 (by decide +kernel)
theorem w38 : wl f 38 = [1633837952, 0, 0, 0, 0, 0, 0, 0, 0, 0, 0, 0, 0, 0, 0, 24, 1633837952, 983040, 2108187653, 1610613702, 1050508152, 25426944, 316456923, 3806512014, 3357629466, 3073800610, 3854317833, 845560923, 2636160359, 3968280267, 1881225380, 3552024379, 2482346367, 996719219, 2952069057, 4043988066, 176896406, 1924104970] := wstep w37 (by decide +kernel)
theorem w39 : wl f 39 = [1633837952, 0, 0, 0, 0, 0, 0, 0, 0, 0, 0, 0, 0, 0, 0, 24, 1633837952, 983040, 2108187653, 1610613702, 1050508152, 25426944, 316456923, 3806512014, 3357629466, 3073800610, 3854317833, 845560923, 2636160359, 3968280267, 1881225380, 3552024379, 2482346367, 996719219, 2952069057, 4043988066, 176896406, 1924104970, 2483675966] := wstep w38 (by decide +kernel)
theorem w40 : wl f 40 = [1633837952, 0, 0, 0, 0, 0, 0, 0, 0, 0, 0, 0, 0, 0, 0, 24, 1633837952, 983040, 2108187653, 1610613702, 1050508152, 25426944, 316456923, 3806512014, 3357629466, 3073800610, 3854317833, 845560923, 2636160359, 3968280267, 1881225380, 3552024379, 2482346367, 996719219, 2952069057, 4043988066, 176896406, 1924104970, 2483675966, 610538786] := wstep w39 (by decide +kernel)
theorem w41 : wl f 41 = [1633837952, 0, 0, 0, 0, 0, 0, 0, 0, 0, 0, 0, 0, 0, 0, 24, 1633837952, 983040, 2108187653, 1610613702, 1050508152, 25426944, 316456923, 3806512014, 3357629466, 3073800610, 3854317833, 845560923, 2636160359, 3968280267, 1881225380, 3552024379, 2482346367, 996719219, 2952069057, 4043988066, 176896406, 1924104970, 2483675966, 610538786, 2672279444] := wstep w40 (by decide +kernel)
theorem w42 : wl f 42 = [1633837952, 0, 0, 0, 0, 0, 0, 0, 0, 0, 0, 0, 0, 0, 0, 24, 1633837952, 983040, 2108187653, 1610613702, 1050508152, 25426944, 316456923, 3806512014, 3357629466, 3073800610, 3854317833, 845560923, 2636160359, 3968280267, 1881225380, 3552024379, 2482346367, 996719219, 2952069057, 4043988066, 176896406, 1924104970, 2483675966, 610538786, 2672279444, 4037431130] := wstep w41 (by decide +kernel)
theorem w43 : wl f 43 = [1633837952, 0, 0, 0, 0, 0, 0, 0, 0, 0, 0, 0, 0, 0, 0, 24, 1633837952, 983040, 2108187653, 1610613702, 1050508152, 25426944, 316456923, 3806512014, 3357629466, 3073800610, 3854317833, 845560923, 2636160359, 3968280267, 1881225380, 3552024379, 2482346367, 996719219, 2952069057, 4043988066, 176896406, 1924104970, 2483675966, 610538786, 2672279444, 4037431130, 1042573945] := wstep w42 (by decide +kernel)
theorem w44 : wl f 44 = [1633837952, 0, 0, 0, 0, 0, 0, 0, 0, 0, 0, 0, 0, 0, 0, 24, 1633837952, 983040, 2108187653, 1610613702, 1050508152, 25426944, 316456923, 3806512014, 3357629466, 3073800610, 3854317833, 845560923, 2636160359, 3968280267, 1881225380, 3552024379, 2482346367, 996719219, 2952069057, 4043988066, 176896406, 1924104970, 2483675966, 610538786, 2672279444, 4037431130, 1042573945, 657669027] := wstep w43 (by decide +kernel)
theorem w45 : wl f 45 = [1633837952, 0, 0, 0, 0, 0, 0, 0, 0, 0, 0, 0, 0, 0, 0, 24, 1633837952, 983040, 2108187653, 1610613702, 1050508152, 25426944, 316456923, 3806512014, 3357629466, 3073800610, 3854317833, 845560923, 2636160359, 3968280267, 1881225380, 3552024379, 2482346367, 996719219, 2952069057, 4043988066, 176896406, 1924104970, 2483675966, 610538786, 2672279444, 4037431130, 1042573945, 657669027, 206005234] := wstep w44 (by decide +kernel)
theorem w46 : wl f 46 = [1633837952, 0, 0, 0, 0, 0, 0, 0, 0, 0, 0, 0, 0, 0, 0, 24, 1633837952, 983040, 2108187653, 1610613702, 1050508152, 25426944, 316456923, 3806512014, 3357629466, 3073800610, 3854317833, 845560923, 2636160359, 3968280267, 1881225380, 3552024379, 2482346367, 996719219, 2952069057, 4043988066, 176896406, 1924104970, 2483675966, 610538786, 2672279444, 4037431130, 1042573945, 657669027, 206005234, 2215296807] := wstep w45 (by decide +kernel)
theorem w47 : wl f 47 = [1633837952, 0, 0, 0, 0, 0, 0, 0, 0, 0, 0, 0, 0, 0, 0, 24, 1633837952, 983040, 2108187653, 1610613702, 1050508152, 25426944, 316456923, 3806512014, 3357629466, 3073800610, 3854317833, 845560923, 2636160359, 3968280267, 1881225380, 3552024379, 2482346367, 996719219, 2952069057, 4043988066, 176896406, 1924104970, 2483675966, 610538786, 2672279444, 4037431130, 1042573945, 657669027, 206005234, 2215296807, 2049510749] := wstep w46 (by decide +kernel)
theorem w48 : wl f 48 = [1633837952, 0, 0, 0, 0, 0, 0, 0, 0, 0, 0, 0, 0, 0, 0, 24, 1633837952, 983040, 2108187653, 1610613702, 1050508152, 25426944, 316456923, 3806512014, 3357629466, 3073800610, 3854317833, 845560923, 2636160359, 3968280267, 1881225380, 3552024379, 2482346367, 996719219, 2952069057, 4043988066, 176896406, 1924104970, 2483675966, 610538786, 2672279444, 4037431130, 1042573945, 657669027, 206005234, 2215296807, 2049510749, 106709978] := wstep w47 (by decide +kernel)
theorem w49 : wl f 49 = [1633837952, 0, 0, 0, 0, 0, 0, 0, 0, 0, 0, 0, 0, 0, 0, 24, 1633837952, 983040, 2108187653, 1610613702, 1050508152, 25426944, 316456923, 3806512014, 3357629466, 3073800610, 3854317833, 845560923, 2636160359, 3968280267, 1881225380, 3552024379, 2482346367, 996719219, 2952069057, 4043988066, 176896406, 1924104970, 2483675966, 610538786, 2672279444, 4037431130, 1042573945, 657669027, 206005234, 2215296807, 2049510749, 106709978, 4215179723] := wstep w48 (by decide +kernel)
theorem w50 : wl f 50 = [1633837952, 0, 0, 0, 0, 0, 0, 0, 0, 0, 0, 0, 0, 0, 0, 24, 1633837952, 983040, 2108187653, 1610613702, 1050508152, 25426944, 316456923, 3806512014, 3357629466, 3073800610, 3854317833, 845560923, 2636160359, 3968280267, 1881225380, 3552024379, 2482346367, 996719219, 2952069057, 4043988066, 176896406, 1924104970, 2483675966, 610538786, 2672279444, 4037431130, 1042573945, 657669027, 206005234, 2215296807, 2049510749, 106709978, 4215179723, 3430291419] := wstep w49 (by decide +kernel)
theorem w51 : wl f 51 = [1633837952, 0, 0, 0, 0, 0, 0, 0, 0, 0, 0, 0, 0, 0, 0, 24, 1633837952, 983040, 2108187653, 1610613702, 1050508152, 25426944, 316456923, 3806512014, 3357629466, 3073800610, 3854317833, 845560923, 2636160359, 3968280267, 1881225380, 3552024379, 2482346367, 996719219, 2952069057, 4043988066, 176896406, 1924104970, 2483675966, 610538786, 2672279444, 4037431130, 1042573945, 657669027, 206005234, 2215296807, 2049510749, 106709978, 4215179723, 3430291419, 3118885940] := wstep w50 (by decide +kernel)
theorem w52 : wl f 52 = [1633837952, 0, 0, 0, 0, 0, 0, 0, 0, 0, 0, 0, 0, 0, 0, 24, 1633837952, 983040, 2108187653, 1610613702, 1050508152, 25426944, 316456923, 3806512014, 3357629466, 3073800610, 3854317833, 845560923, 2636160359, 3968280267, 1881225380, 3552024379, 2482346367, 996719219, 2952069057, 4043988066, 176896406, 1924104970, 2483675966, 610538786, 2672279444, 4037431130, 1042573945, 657669027, 206005234, 2215296807, 2049510749, 106709978, 4215179723, 3430291419, 3118885940, 2845390439] := wstep w51 (by decide +kernel)
theorem w53 : wl f 53 = [1633837952, 0, 0, 0, 0, 0, 0, 0, 0, 0, 0, 0, 0, 0, 0, 24, 1633837952, 983040, 2108187653, 1610613702, 1050508152, 25426944, 316456923, 3806512014, 3357629466, 3073800610, 3854317833, 845560923, 2636160359, 3968280267, 1881225380, 3552024379, 2482346367, 996719219, 2952069057, 4043988066, 176896406, 1924104970, 2483675966, 610538786, 2672279444, 4037431130, 1042573945, 657669027, 206005234, 2215296807, 2049510749, 106709978, 4215179723, 3430291419, 3118885940, 2845390439, 2226839261] := wstep w52 (by decide +kernel)
theorem w54 : wl f 54 = [1633837952, 0, 0, 0, 0, 0, 0, 0, 0, 0, 0, 0, 0, 0, 0, 24, 1633837952, 983040, 2108187653, 1610613702, 1050508152, 25426944, 316456923, 3806512014, 3357629466, 3073800610, 3854317833, 845560923, 2636160359, 3968280267, 1881225380, 3552024379, 2482346367, 996719219, 2952069057, 4043988066, 176896406, 1924104970, 2483675966, 610538786, 2672279444, 4037431130, 1042573945, 657669027, 206005234, 2215296807, 2049510749, 106709978, 4215179723, 3430291419, 3118885940, 2845390439, 2226839261, 3256115900] := wstep w53 (by decide +kernel)
theorem w55 : wl f 55 = [1633837952, 0, 0, 0, 0, 0, 0, 0, 0, 0, 0, 0, 0, 0, 0, 24, 1633837952, 983040, 2108187653, 1610613702, 1050508152, 25426944, 316456923, 3806512014, 3357629466, 3073800610, 3854317833, 845560923, 2636160359, 3968280267, 1881225380, 3552024379, 2482346367, 996719219, 2952069057, 4043988066, 176896406, 1924104970, 2483675966, 610538786, 2672279444, 4037431130, 1042573945, 657669027, 206005234, 2215296807, 2049510749, 106709978, 4215179723, 3430291419, 3118885940, 2845390439, 2226839261, 3256115900, 344409900] := wstep w54 (by decide +kernel)
theorem w56 : wl f 56 = [1633837952, 0, 0, 0, 0, 0, 0, 0, 0, 0, 0, 0, 0, 0, 0, 24, 1633837952, 983040, 2108187653, 1610613702, 1050508152, 25426944, 316456923, 3806512014, 3357629466, 3073800610, 3854317833, 845560923, 2636160359, 3968280267, 1881225380, 3552024379, 2482346367, 996719219, 2952069057, 4043988066, 176896406, 1924104970, 2483675966, 610538786, 2672279444, 4037431130, 1042573945, 657669027, 206005234, 2215296807, 2049510749, 106709978, 4215179723, 3430291419, 3118885940, 2845390439, 2226839261, 3256115900, 344409900, 2987358873] := wstep w55 (by decide +kernel)
theorem w57 : wl f 57 = [1633837952, 0, 0, 0, 0, 0, 0, 0, 0, 0, 0, 0, 0, 0, 0, 24, 1633837952, 983040, 2108187653, 1610613702, 1050508152, 25426944, 316456923, 3806512014, 3357629466, 3073800610, 3854317833, 845560923, 2636160359, 3968280267, 1881225380, 3552024379, 2482346367, 996719219, 2952069057, 4043988066, 176896406, 1924104970, 2483675966, 610538786, 2672279444, 4037431130, 1042573945, 657669027, 206005234, 2215296807, 2049510749, 106709978, 4215179723, 3430291419, 3118885940, 2845390439, 2226839261, 3256115900, 344409900, 2987358873, 4015503821] := wstep w56 (by decide +kernel)
theorem w58 : wl f 58 = [1633837952, 0, 0, 0, 0, 0, 0, 0, 0, 0, 0, 0, 0, 0, 0, 24, 1633837952, 983040, 2108187653, 1610613702, 1050508152, 25426944, 316456923, 3806512014, 3357629466, 3073800610, 3854317833, 845560923, 2636160359, 3968280267, 1881225380, 3552024379, 2482346367, 996719219, 2952069057, 4043988066, 176896406, 1924104970, 2483675966, 610538786, 2672279444, 4037431130, 1042573945, 657669027, 206005234, 2215296807, 2049510749, 106709978, 4215179723, 3430291419, 3118885940, 2845390439, 2226839261, 3256115900, 344409900, 2987358873, 4015503821, 3957764664] := wstep w57 (by decide +kernel)
theorem w59 : wl f 59 = [1633837952, 0, 0, 0, 0, 0, 0, 0, 0, 0, 0, 0, 0, 0, 0, 24, 1633837952, 983040, 2108187653, 1610613702, 1050508152, 25426944, 316456923, 3806512014, 3357629466, 3073800610, 3854317833, 845560923, 2636160359, 3968280267, 1881225380, 3552024379, 2482346367, 996719219, 2952069057, 4043988066, 176896406, 1924104970, 2483675966, 610538786, 2672279444, 4037431130, 1042573945, 657669027, 206005234, 2215296807, 2049510749, 106709978, 4215179723, 3430291419, 3118885940, 2845390439, 2226839261, 3256115900, 344409900, 2987358873, 4015503821, 3957764664, 2682456414] := wstep w58 (by decide +kernel)
theorem w60 : wl f 60 = [1633837952, 0, 0, 0, 0, 0, 0, 0, 0, 0, 0, 0, 0, 0, 0, 24, 1633837952, 983040, 2108187653, 1610613702, 1050508152, 25426944, 316456923, 3806512014, 3357629466, 3073800610, 3854317833, 845560923, 2636160359, 3968280267, 1881225380, 3552024379, 2482346367, 996719219, 2952069057, 4043988066, 176896406, 1924104970, 2483675966, 610538786, 2672279444, 4037431130, 1042573945, 657669027, 206005234, 2215296807, 2049510749, 106709978, 4215179723, 3430291419, 3118885940, 2845390439, 2226839261, 3256115900, 344409900, 2987358873, 4015503821, 3957764664, 2682456414, 2025622859] := wstep w59 (by decide +kernel)
theorem w61 : wl f 61 = [1633837952, 0, 0, 0, 0, 0, 0, 0, 0, 0, 0, 0, 0, 0, 0, 24, 1633837952, 983040, 2108187653, 1610613702, 1050508152, 25426944, 316456923, 3806512014, 3357629466, 3073800610, 3854317833, 845560923, 2636160359, 3968280267, 1881225380, 3552024379, 2482346367, 996719219, 2952069057, 4043988066, 176896406, 1924104970, 2483675966, 610538786, 2672279444, 4037431130, 1042573945, 657669027, 206005234, 2215296807, 2049510749, 106709978, 4215179723, 3430291419, 3118885940, 2845390439, 2226839261, 3256115900, 344409900, 2987358873, 4015503821, 3957764664, 2682456414, 2025622859, 2755645205] := wstep w60 (by decide +kernel)
theorem w62 : wl f 62 = [1633837952, 0, 0, 0, 0, 0, 0, 0, 0, 0, 0, 0, 0, 0, 0, 24, 1633837952, 983040, 2108187653, 1610613702, 1050508152, 25426944, 316456923, 3806512014, 3357629466, 3073800610, 3854317833, 845560923, 2636160359, 3968280267, 1881225380, 3552024379, 2482346367, 996719219, 2952069057, 4043988066, 176896406, 1924104970, 2483675966, 610538786, 2672279444, 4037431130, 1042573945, 657669027, 206005234, 2215296807, 2049510749, 106709978, 4215179723, 3430291419, 3118885940, 2845390439, 2226839261, 3256115900, 344409900, 2987358873, 4015503821, 3957764664, 2682456414, 2025622859, 2755645205, 1720397816] := wstep w61 (by decide +kernel)
theorem w63 : wl f 63 = [1633837952, 0, 0, 0, 0, 0, 0, 0, 0, 0, 0, 0, 0, 0, 0, 24, 1633837952, 983040, 2108187653, 1610613702, 1050508152, 25426944, 316456923, 3806512014, 3357629466, 3073800610, 3854317833, 845560923, 2636160359, 3968280267, 1881225380, 3552024379, 2482346367, 996719219, 2952069057, 4043988066, 176896406, 1924104970, 2483675966, 610538786, 2672279444, 4037431130, 1042573945, 657669027, 206005234, 2215296807, 2049510749, 106709978, 4215179723, 3430291419, 3118885940, 2845390439, 2226839261, 3256115900, 344409900, 2987358873, 4015503821, 3957764664, 2682456414, 2025622859, 2755645205, 1720397816, 4004225740] := wstep w62 (by decide +kernel)
theorem w64 : wl f 64 = [1633837952, 0, 0, 0, 0, 0, 0, 0, 0, 0, 0, 0, 0, 0, 0, 24, 1633837952, 983040, 2108187653, 1610613702, 1050508152, 25426944, 316456923, 3806512014, 3357629466, 3073800610, 3854317833, 845560923, 2636160359, 3968280267, 1881225380, 3552024379, 2482346367, 996719219, 2952069057, 4043988066, 176896406, 1924104970, 2483675966, 610538786, 2672279444, 4037431130, 1042573945, 657669027, 206005234, 2215296807, 2049510749, 106709978, 4215179723, 3430291419, 3118885940, 2845390439, 2226839261, 3256115900, 344409900, 2987358873, 4015503821, 3957764664, 2682456414, 2025622859, 2755645205, 1720397816, 4004225740, 313650667] := wstep w63 (by decide +kernel)
theorem r0 : rds K (wl f 64) H 0 = [1779033703, 3144134277, 1013904242, 2773480762, 1359893119, 2600822924, 528734635, 1541459225] := rfl
theorem r1 : rds K (wl f 64) H 1 = [1567288269, 1779033703, 3144134277, 1013904242, 4197074466, 1359893119, 2600822924, 528734635] := rstep r0 (k := 1116352408) (x := 1633837952) (by decide +kernel) (by rw [w64]; decide +kernel) (by decide +kernel)
theorem r2 : rds K (wl f 64) H 2 = [1516951981, 1567288269, 1779033703, 3144134277, 2026797449, 4197074466, 1359893119, 2600822924] := rstep r1 (k := 1899447441) (x := 0) (by decide +kernel) (by rw [w64]; decide +kernel) (by decide +kernel)
theorem r3 : rds K (wl f 64) H 3 = [3368241063, 1516951981, 1567288269, 1779033703, 4180228587, 2026797449, 4197074466, 1359893119] := rstep r2 (k := 3049323471) (x := 0) (by decide +kernel) (by rw [w64]; decide +kernel) (by decide +kernel)
theorem r4 : rds K (wl f 64) H 4 = [3578852966, 3368241063, 1516951981, 1567288269, 618661968, 4180228587, 2026797449, 4197074466] := rstep r3 (k := 3921009573) (x := 0) (by decide +kernel) (by rw [w64]; decide +kernel) (by decide +kernel)
theorem r5 : rds K (wl f 64) H 5 = [71342698, 3578852966, 3368241063, 1516951981, 1135452741, 618661968, 4180228587, 2026797449] := rstep r4 (k := 961987163) (x := 0) (by decide +kernel) (by rw [w64]; decide +kernel) (by decide +kernel)
theorem r6 : rds K (wl f 64) H 6 = [725748213, 71342698, 3578852966, 3368241063, 1900175533, 1135452741, 618661968, 4180228587] := rstep r5 (k := 1508970993) (x := 0) (by decide +kernel) (by rw [w64]; decide +kernel) (by decide +kernel)
theorem r7 : rds K (wl f 64) H 7 = [3842179968, 725748213, 71342698, 3578852966, 2603066369, 1900175533, 1135452741, 618661968] := rstep r6 (k := 2453635748) (x := 0) (by decide +kernel) (by rw [w64]; decide +kernel) (by decide +kernel)
theorem r8 : rds K (wl f 64) H 8 = [2241887071, 3842179968, 725748213, 71342698, 207977081, 2603066369, 1900175533, 1135452741] := rstep r7 (k := 2870763221) (x := 0) (by decide +kernel) (by rw [w64]; decide +kernel) (by decide +kernel)
theorem r9 : rds K (wl f 64) H 9 = [2382687417, 2241887071, 3842179968, 725748213, 852110732, 207977081, 2603066369, 1900175533] := rstep r8 (k := 3624381080) (x := 0) (by decide +kernel) (by rw [w64]; decide +kernel) (by decide +kernel)
theorem r10 : rds K (wl f 64) H 10 = [2357671019, 2382687417, 2241887071, 3842179968, 482944406, 852110732, 207977081, 2603066369] := rstep r9 (k := 310598401) (x := 0) (by decide +kernel) (by rw [w64]; decide +kernel) (by decide +kernel)
theorem r11 : rds K (wl f 64) H 11 = [1201185780, 2357671019, 2382687417, 2241887071, 1131095016, 482944406, 852110732, 207977081] := rstep r10 (k := 607225278) (x := 0) (by decide +kernel) (by rw [w64]; decide +kernel) (by decide +kernel)
theorem r12 : rds K (wl f 64) H 12 = [4146054569, 1201185780, 2357671019, 2382687417, 2171590377, 1131095016, 482944406, 852110732] := rstep r11 (k := 1426881987) (x := 0) (by decide +kernel) (by rw [w64]; decide +kernel) (by decide +kernel)
theorem r13 : rds K (wl f 64) H 13 = [2274437520, 4146054569, 1201185780, 2357671019, 509051416, 2171590377, 1131095016, 482944406] := rstep r12 (k := 1925078388) (x := 0) (by decide +kernel) (by rw [w64]; decide +kernel) (by decide +kernel)
theorem r14 : rds K (wl f 64) H 14 = [3643992854, 2274437520, 4146054569, 1201185780, 1952073950, 509051416, 2171590377, 1131095016] := rstep r13 (k := 2162078206) (x := 0) (by decide +kernel) (by rw [w64]; decide +kernel) (by decide +kernel)
theorem r15 : rds K (wl f 64) H 15 = [3227803614, 3643992854, 2274437520, 4146054569, 194179596, 1952073950, 509051416, 2171590377] := rstep r14 (k := 2614888103) (x := 0) (by decide +kernel) (by rw [w64]; decide +kernel) (by decide +kernel)
theorem r16 : rds K (wl f 64) H 16 = [2969183118, 3227803614, 3643992854, 2274437520, 123276749, 194179596, 1952073950, 509051416] := rstep r15 (k := 3248222580) (x := 24) (by decide +kernel) (by rw [w64]; decide +kernel) (by decide +kernel)
theorem r17 : rds K (wl f 64) H 17 = [567974555, 2969183118, 3227803614, 3643992854, 2150900380, 123276749, 194179596, 1952073950] := rstep r16 (k := 3835390401) (x := 1633837952) (by decide +kernel) (by rw [w64]; decide +kernel) (by decide +kernel)
theorem r18 : rds K (wl f 64) H 18 = [3271285201, 567974555, 2969183118, 3227803614, 2221859924, 2150900380, 123276749, 194179596] := rstep r17 (k := 4022224774) (x := 983040) (by decide +kernel) (by rw [w64]; decide +kernel) (by decide +kernel)
theorem r19 : rds K (wl f 64) H 19 = [4269243327, 3271285201, 567974555, 2969183118, 3431569761, 2221859924, 2150900380, 123276749] := rstep r18 (k := 264347078) (x := 2108187653) (by decide +kernel) (by rw [w64]; decide +kernel) (by decide +kernel)
theorem r20 : rds K (wl f 64) H 20 = [3790736435, 4269243327, 3271285201, 567974555, 2959311225, 3431569761, 2221859924, 2150900380] := rstep r19 (k := 604807628) (x := 1610613702) (by decide +kernel) (by rw [w64]; decide +kernel) (by decide +kernel)
theorem r21 : rds K (wl f 64) H 21 = [2647034723, 3790736435, 4269243327, 3271285201, 2329577776, 2959311225, 3431569761, 2221859924] := rstep r20 (k := 770255983) (x := 1050508152) (by decide +kernel) (by rw [w64]; decide +kernel) (by decide +kernel)
theorem r22 : rds K (wl f 64) H 22 = [3261099373, 2647034723, 3790736435, 4269243327, 3777329520, 2329577776, 2959311225, 3431569761] := rstep r21 (k := 1249150122) (x := 25426944) (by decide +kernel) (by rw [w64]; decide +kernel) (by decide +kernel)
theorem r23 : rds K (wl f 64) H 23 = [2812502591, 3261099373, 2647034723, 3790736435, 1240797514, 3777329520, 2329577776, 2959311225] := rstep r22 (k := 1555081692) (x := 316456923) (by decide +kernel) (by rw [w64]; decide +kernel) (by decide +kernel)
theorem r24 : rds K (wl f 64) H 24 = [3319086477, 2812502591, 3261099373, 2647034723, 2856829767, 1240797514, 3777329520, 2329577776] := rstep r23 (k := 1996064986) (x := 3806512014) (by decide +kernel) (by rw [w64]; decide +kernel) (by decide +kernel)
theorem r25 : rds K (wl f 64) H 25 = [472655928, 3319086477, 2812502591, 3261099373, 673443729, 2856829767, 1240797514, 3777329520] := rstep r24 (k := 2554220882) (x := 3357629466) (by decide +kernel) (by rw [w64]; decide +kernel) (by decide +kernel)
theorem r26 : rds K (wl f 64) H 26 = [3454534525, 472655928, 3319086477, 2812502591, 339230094, 673443729, 2856829767, 1240797514] := rstep r25 (k := 2821834349) (x := 3073800610) (by decide +kernel) (by rw [w64]; decide +kernel) (by decide +kernel)
theorem r27 : rds K (wl f 64) H 27 = [3056518332, 3454534525, 472655928, 3319086477, 3343672598, 339230094, 673443729, 2856829767] := rstep r26 (k := 2952996808) (x := 3854317833) (by decide +kernel) (by rw [w64]; decide +kernel) (by decide +kernel)
theorem r28 : rds K (wl f 64) H 28 = [2010346792, 3056518332, 3454534525, 472655928, 3992961016, 3343672598, 339230094, 673443729] := rstep r27 (k := 3210313671) (x := 845560923) (by decide +kernel) (by rw [w64]; decide +kernel) (by decide +kernel)
theorem r29 : rds K (wl f 64) H 29 = [909411017, 2010346792, 3056518332, 3454534525, 1628611511, 3992961016, 3343672598, 339230094] := rstep r28 (k := 3336571891) (x := 2636160359) (by decide +kernel) (by rw [w64]; decide +kernel) (by decide +kernel)
theorem r30 : rds K (wl f 64) H 30 = [2684750640, 909411017, 2010346792, 3056518332, 2917635127, 1628611511, 3992961016, 3343672598] := rstep r29 (k := 3584528711) (x := 3968280267) (by decide +kernel) (by rw [w64]; decide +kernel) (by decide +kernel)
theorem r31 : rds K (wl f 64) H 31 = [3935906338, 2684750640, 909411017, 2010346792, 17410874, 2917635127, 1628611511, 3992961016] := rstep r30 (k := 113926993) (x := 1881225380) (by decide +kernel) (by rw [w64]; decide +kernel) (by decide +kernel)
theorem r32 : rds K (wl f 64) H 32 = [1941126133, 3935906338, 2684750640, 909411017, 3126399250, 17410874, 2917635127, 1628611511] := rstep r31 (k := 338241895) (x := 3552024379) (by decide +kernel) (by rw [w64]; decide +kernel) (by decide +kernel)
theorem r33 : rds K (wl f 64) H 33 = [2564891911, 1941126133, 3935906338, 2684750640, 2631529974, 3126399250, 17410874, 2917635127] := rstep r32 (k := 666307205) (x := 2482346367) (by decide +kernel) (by rw [w64]; decide +kernel) (by decide +kernel)
theorem r34 : rds K (wl f 64) H 34 = [4267724277, 2564891911, 1941126133, 3935906338, 1495571923, 2631529974, 3126399250, 17410874] := rstep r33 (k := 773529912) (x := 996719219) (by decide +kernel) (by rw [w64]; decide +kernel) (by decide +kernel)
theorem r35 : rds K (wl f 64) H 35 = [2846323596, 4267724277, 2564891911, 1941126133, 140458035, 1495571923, 2631529974, 3126399250] := rstep r34 (k := 1294757372) (x := 2952069057) (by decide +kernel) (by rw [w64]; decide +kernel) (by decide +kernel)
theorem r36 : rds K (wl f 64) H 36 = [1705037796, 2846323596, 4267724277, 2564891911, 4105175766, 140458035, 1495571923, 2631529974] := rstep r35 (k := 1396182291) (x := 4043988066) (by decide +kernel) (by rw [w64]; decide +kernel) (by decide +kernel)
theorem r37 : rds K (wl f 64) H 37 = [1101421745, 1705037796, 2846323596, 4267724277, 124953195, 4105175766, 140458035, 1495571923] := rstep r36 (k := 1695183700) (x := 176896406) (by decide +kernel) (by rw [w64]; decide +kernel) (by decide +kernel)
theorem r38 : rds K (wl f 64) H 38 = [887035396, 1101421745, 1705037796, 2846323596, 2768741693, 124953195, 4105175766, 140458035] := rstep r37 (k := 1986661051) (x := 1924104970) (by decide +kernel) (by rw [w64]; decide +kernel) (by decide +kernel)
theorem r39 : rds K (wl f 64) H 39 = [1841658506, 887035396, 1101421745, 1705037796, 4034403272, 2768741693, 124953195, 4105175766] := rstep r38 (k := 2177026350) (x := 2483675966) (by decide +kernel) (by rw [w64]; decide +kernel) (by decide +kernel)
theorem r40 : rds K (wl f 64) H 40 = [2045405306, 1841658506, 887035396, 1101421745, 519815328, 4034403272, 2768741693, 124953195] := rstep r39 (k := 2456956037) (x := 610538786) (by decide +kernel) (by rw [w64]; decide +kernel) (by decide +kernel)
theorem r41 : rds K (wl f 64) H 41 = [3597076326, 2045405306, 1841658506, 887035396, 641019235, 519815328, 4034403272, 2768741693] := rstep r40 (k := 2730485921) (x := 2672279444) (by decide +kernel) (by rw [w64]; decide +kernel) (by decide +kernel)
theorem r42 : rds K (wl f 64) H 42 = [3745932591, 3597076326, 2045405306, 1841658506, 2206934801, 641019235, 519815328, 4034403272] := rstep r41 (k := 2820302411) (x := 4037431130) (by decide +kernel) (by rw [w64]; decide +kernel) (by decide +kernel)
theorem r43 : rds K (wl f 64) H 43 = [397020670, 3745932591, 3597076326, 2045405306, 3737995029, 2206934801, 641019235, 519815328] := rstep r42 (k := 3259730800) (x := 1042573945) (by decide +kernel) (by rw [w64]; decide +kernel) (by decide +kernel)
theorem r44 : rds K (wl f 64) H 44 = [2638983059, 397020670, 3745932591, 3597076326, 4255271982, 3737995029, 2206934801, 641019235] := rstep r43 (k := 3345764771) (x := 657669027) (by decide +kernel) (by rw [w64]; decide +kernel) (by decide +kernel)
theorem r45 : rds K (wl f 64) H 45 = [643991573, 2638983059, 397020670, 3745932591, 2819559920, 4255271982, 3737995029, 2206934801] := rstep r44 (k := 3516065817) (x := 206005234) (by decide +kernel) (by rw [w64]; decide +kernel) (by decide +kernel)
theorem r46 : rds K (wl f 64) H 46 = [1923828625, 643991573, 2638983059, 397020670, 3077922209, 2819559920, 4255271982, 3737995029] := rstep r45 (k := 3600352804) (x := 2215296807) (by decide +kernel) (by rw [w64]; decide +kernel) (by decide +kernel)
theorem r47 : rds K (wl f 64) H 47 = [2706117808, 1923828625, 643991573, 2638983059, 3581645993, 3077922209, 2819559920, 4255271982] := rstep r46 (k := 4094571909) (x := 2049510749) (by decide +kernel) (by rw [w64]; decide +kernel) (by decide +kernel)
theorem r48 : rds K (wl f 64) H 48 = [1098003085, 2706117808, 1923828625, 643991573, 4274981830, 3581645993, 3077922209, 2819559920] := rstep r47 (k := 275423344) (x := 106709978) (by decide +kernel) (by rw [w64]; decide +kernel) (by decide +kernel)
theorem r49 : rds K (wl f 64) H 49 = [91585771, 1098003085, 2706117808, 1923828625, 3178315832, 4274981830, 3581645993, 3077922209] := rstep r48 (k := 430227734) (x := 4215179723) (by decide +kernel) (by rw [w64]; decide +kernel) (by decide +kernel)
theorem r50 : rds K (wl f 64) H 50 = [4045142696, 91585771, 1098003085, 2706117808, 1851537676, 3178315832, 4274981830, 3581645993] := rstep r49 (k := 506948616) (x := 3430291419) (by decide +kernel) (by rw [w64]; decide +kernel) (by decide +kernel)
theorem r51 : rds K (wl f 64) H 51 = [2047150241, 4045142696, 91585771, 1098003085, 1391578359, 1851537676, 3178315832, 4274981830] := rstep r50 (k := 659060556) (x := 3118885940) (by decide +kernel) (by rw [w64]; decide +kernel) (by decide +kernel)
theorem r52 : rds K (wl f 64) H 52 = [2288941602, 2047150241, 4045142696, 91585771, 1227037726, 1391578359, 1851537676, 3178315832] := rstep r51 (k := 883997877) (x := 2845390439) (by decide +kernel) (by rw [w64]; decide +kernel) (by decide +kernel)
theorem r53 : rds K (wl f 64) H 53 = [270520975, 2288941602, 2047150241, 4045142696, 1386118400, 1227037726, 1391578359, 1851537676] := rstep r52 (k := 958139571) (x := 2226839261) (by decide +kernel) (by rw [w64]; decide +kernel) (by decide +kernel)
theorem r54 : rds K (wl f 64) H 54 = [4117770203, 270520975, 2288941602, 2047150241, 2672265155, 1386118400, 1227037726, 1391578359] := rstep r53 (k := 1322822218) (x := 3256115900) (by decide +kernel) (by rw [w64]; decide +kernel) (by decide +kernel)
theorem r55 : rds K (wl f 64) H 55 = [1053056219, 4117770203, 270520975, 2288941602, 3842906959, 2672265155, 1386118400, 1227037726] := rstep r54 (k := 1537002063) (x := 344409900) (by decide +kernel) (by rw [w64]; decide +kernel) (by decide +kernel)
theorem r56 : rds K (wl f 64) H 56 = [952932627, 1053056219, 4117770203, 270520975, 1422599787, 3842906959, 2672265155, 1386118400] := rstep r55 (k := 1747873779) (x := 2987358873) (by decide +kernel) (by rw [w64]; decide +kernel) (by decide +kernel)
theorem r57 : rds K (wl f 64) H 57 = [4241590395, 952932627, 1053056219, 4117770203, 2606665836, 1422599787, 3842906959, 2672265155] := rstep r56 (k := 1955562222) (x := 4015503821) (by decide +kernel) (by rw [w64]; decide +kernel) (by decide +kernel)
theorem r58 : rds K (wl f 64) H 58 = [3227702383, 4241590395, 952932627, 1053056219, 2118385806, 2606665836, 1422599787, 3842906959] := rstep r57 (k := 2024104815) (x := 3957764664) (by decide +kernel) (by rw [w64]; decide +kernel) (by decide +kernel)
theorem r59 : rds K (wl f 64) H 59 = [4290184306, 3227702383, 4241590395, 952932627, 1837350854, 2118385806, 2606665836, 1422599787] := rstep r58 (k := 2227730452) (x := 2682456414) (by decide +kernel) (by rw [w64]; decide +kernel) (by decide +kernel)
theorem r60 : rds K (wl f 64) H 60 = [3064893439, 4290184306, 3227702383, 4241590395, 2988158269, 1837350854, 2118385806, 2606665836] := rstep r59 (k := 2361852424) (x := 2025622859) (by decide +kernel) (by rw [w64]; decide +kernel) (by decide +kernel)
theorem r61 : rds K (wl f 64) H 61 = [3093179625, 3064893439, 4290184306, 3227702383, 2518632596, 2988158269, 1837350854, 2118385806] := rstep r60 (k := 2428436474) (x := 2755645205) (by decide +kernel) (by rw [w64]; decide +kernel) (by decide +kernel)
theorem r62 : rds K (wl f 64) H 62 = [80891244, 3093179625, 3064893439, 4290184306, 2492278198, 2518632596, 2988158269, 1837350854] := rstep r61 (k := 2756734187) (x := 1720397816) (by decide +kernel) (by rw [w64]; decide +kernel) (by decide +kernel)
theorem r63 : rds K (wl f 64) H 63 = [3550093669, 80891244, 3093179625, 3064893439, 4212265488, 2492278198, 2518632596, 2988158269] := rstep r62 (k := 3204031479) (x := 4004225740) (by decide +kernel) (by rw [w64]; decide +kernel) (by decide +kernel)
theorem r64 : rds K (wl f 64) H 64 = [1349398616, 3550093669, 80891244, 3093179625, 1593118500, 4212265488, 2492278198, 2518632596] := rstep r63 (k := 3329325298) (x := 313650667) (by decide +kernel) (by rw [w64]; decide +kernel) (by decide +kernel)
theorem pad : padded [97, 98, 99] = t := by decide +kernel
theorem b1 : hsh H K t 1 = [3128432319, 2399260650, 1094795486, 1571693091, 2953011619, 2518121116, 3021012833, 4060091821] := by
  show blk K f H = _
  unfold blk
  rw [r64]
  decide +kernel
end Abc
theorem sha_abc : sha [97, 98, 99] = [186, 120, 22, 191, 143, 1, 207, 234, 65, 65, 64, 222, 93, 174, 34, 35, 176, 3, 97, 163, 150, 23, 122, 156, 180, 16, 255, 97, 242, 0, 21, 173] := by
  have eh : HH = Abc.H := HH_is
  have ek : KK = Abc.K := KK_is
  unfold sha shaK
  rw [eh, ek, Abc.pad, show Abc.t.length / 64 = 1 from by decide +kernel, Abc.b1]
  decide +kernel
end Go.Proofs.YtjifionpblpfoaaDoor

/-
  A digest's cells. Conditions: none.
-/
namespace Go.Proofs.YtjifionpblpfoaaDoor
open Go.RowKit
open Pol (co Sm)

/-- A digest's cells. -/
def Dgc (c : Array Value) (l : List Nat) : Prop := c.size = 32 ∧ ∀ i, i < 32 → c[i]? = some (.int .u8 ((co l i : Nat) : Int))
end Go.Proofs.YtjifionpblpfoaaDoor

/-
  Slices of slices of bytes that read as a list of rows: what it means, that it stays while only new blocks are laid, and what append does with such slices of a call's own. Conditions: the lengths add up to no more than 2^40.
-/
namespace Go.Proofs.YtjifionpblpfoaaDoor
open Go.RowKit
open Pol (co Sm)

/-- A row. -/
def ro (rows : List (List Nat)) (i : Nat) : List Nat := rows[i]?.getD []
theorem ro_append_left (a b : List (List Nat)) (i : Nat) (h : i < a.length) : ro (a ++ b) i = ro a i := by unfold ro; rw [List.getElem?_append_left h]
theorem ro_append_right (a b : List (List Nat)) (i : Nat) (h : a.length ≤ i) : ro (a ++ b) i = ro b (i - a.length) := by unfold ro; rw [List.getElem?_append_right h]
theorem ro_mem {rows : List (List Nat)} {r : List Nat} (h : r ∈ rows) : ∃ i, i < rows.length ∧ ro rows i = r := by
  obtain ⟨i, hi, e⟩ := List.mem_iff_getElem.1 h
  exact ⟨i, hi, by unfold ro; rw [List.getElem?_eq_getElem hi]; exact e⟩
theorem ro_in (rows : List (List Nat)) (i : Nat) (h : i < rows.length) : ro rows i ∈ rows := by
  unfold ro
  rw [List.getElem?_eq_getElem h]
  exact List.getElem_mem h
theorem ro_ext {a b : List (List Nat)} (hl : a.length = b.length) (h : ∀ i, i < a.length → ro a i = ro b i) : a = b := by
  apply List.ext_getElem hl
  intro i h1 h2
  have := h i h1
  unfold ro at this
  rw [List.getElem?_eq_getElem h1, List.getElem?_eq_getElem h2] at this
  exact this
/-- From address A on lie the rows. -/
def RRd (w : World) (A : Option Addr) (rows : List (List Nat)) : Prop :=
  ∀ i, i < rows.length → ∃ b o B c, A = some ⟨b, o, none⟩ ∧ w.cell? ⟨b, o + i, none⟩ = some (.slice B (ro rows i).length c) ∧ (ro rows i).length ≤ c ∧ Rd w B (ro rows i)
theorem RRd.ext {w w' : World} {A : Option Addr} {rows : List (List Nat)} (h : RRd w A rows) (hx : Ext w w') : RRd w' A rows := fun i hi => by
  obtain ⟨b, o, B, c, e, hc, hl, hr⟩ := h i hi
  exact ⟨b, o, B, c, e, (hx.below.cell (p := ⟨b, o + i, none⟩) (block_lt_of_cell hc)).trans hc, hl, hr.ext hx⟩
theorem RRd.nil (w : World) (A : Option Addr) : RRd w A [] := fun i hi => absurd hi (by simp)
theorem RRd.sm {w : World} {A : Option Addr} {rows : List (List Nat)} (h : RRd w A rows) : ∀ r ∈ rows, Sm r := fun r hr => by
  obtain ⟨i, hi, rfl⟩ := ro_mem hr
  obtain ⟨_, _, _, _, _, _, _, hrd⟩ := h i hi
  exact hrd.1
/-- Values that are slices of these rows. -/
def RowsV (w : World) (vs : List Value) (rows : List (List Nat)) : Prop := vs.length = rows.length ∧ ∀ i, i < rows.length → ∃ B c, vs[i]? = some (.slice B (ro rows i).length c) ∧ (ro rows i).length ≤ c ∧ Rd w B (ro rows i)
/-- None of them lies in a block. -/
def Far (vs : List Value) (row : Option Nat) : Prop := ∀ (i : Nat) (b o n c : Nat), vs[i]? = some (.slice (some ⟨b, o, none⟩) n c) → 0 < n → some b ≠ row
theorem RowsV.keep {w w' : World} {vs : List Value} {rows : List (List Nat)} {row : Option Nat} (h : RowsV w vs rows) (hg : w.grownBy w' row) (hf : Far vs row) : RowsV w' vs rows :=
  ⟨h.1, fun i hi => by
    obtain ⟨B, c, hv, hl, hr⟩ := h.2 i hi
    refine ⟨B, c, hv, hl, hr.1, fun j hj => ?_⟩
    obtain ⟨b, o, e, hc⟩ := hr.2 j hj
    exact ⟨b, o, e, hg.cell hc (hf i b o _ c (by rw [hv, e]) (by omega))⟩⟩
theorem RowsV.ext {w w' : World} {vs : List Value} {rows : List (List Nat)} (h : RowsV w vs rows) (hx : Ext w w') : RowsV w' vs rows :=
  ⟨h.1, fun i hi => by
    obtain ⟨B, c, hv, hl, hr⟩ := h.2 i hi
    exact ⟨B, c, hv, hl, hr.ext hx⟩⟩
theorem RowsV.append {w : World} {vs us : List Value} {rows more : List (List Nat)} (h : RowsV w vs rows) (k : RowsV w us more) : RowsV w (vs ++ us) (rows ++ more) :=
  ⟨by rw [List.length_append, List.length_append, h.1, k.1], fun i hi => by
    rw [List.length_append] at hi
    by_cases hl : i < rows.length
    · rw [ro_append_left _ _ _ hl, List.getElem?_append_left (by rw [h.1]; exact hl)]
      exact h.2 i hl
    · rw [ro_append_right _ _ _ (by omega), List.getElem?_append_right (by rw [h.1]; omega), h.1]
      exact k.2 (i - rows.length) (by omega)⟩
theorem RowsV.lt {w : World} {vs : List Value} {rows : List (List Nat)} (h : RowsV w vs rows) {i b o n c : Nat} (hi : vs[i]? = some (.slice (some ⟨b, o, none⟩) n c)) (hn : 0 < n) : b < w.heap.size := by
  have hil : i < rows.length := by rw [← h.1]; exact (List.getElem?_eq_some_iff.1 hi).1
  obtain ⟨B, c', hv, hl, hr⟩ := h.2 i hil
  rw [hv] at hi
  injection hi with hi
  injection hi with e1 e2 e3
  subst e2
  obtain ⟨b', o', e, hc⟩ := hr.2 0 hn
  rw [e] at e1
  injection e1 with e1
  injection e1 with e1 _
  rw [← e1]
  exact block_lt_of_cell hc
theorem RowsV.one {w : World} {vs : List Value} {rows : List (List Nat)} (h : RowsV w vs rows) : ∀ u ∈ vs, u.oneCell' = true := fun u hu => by
  obtain ⟨i, hi, e⟩ := List.mem_iff_getElem.1 hu
  obtain ⟨B, c, hv, _⟩ := h.2 i (by rw [← h.1]; exact hi)
  rw [List.getElem?_eq_getElem hi, e] at hv
  injection hv with hv
  rw [hv]
  rfl
theorem RRd.vals {w : World} {A : Option Addr} {rows : List (List Nat)} (h : RRd w A rows) : ∃ vs, RowsV w vs rows ∧ ∀ j u, vs[j]? = some u → ∃ b o, A = some ⟨b, o, none⟩ ∧ w.cell? ⟨b, o + j, none⟩ = some u := by
  rcases Nat.eq_zero_or_pos rows.length with h0 | h0
  · have : rows = [] := List.eq_nil_of_length_eq_zero h0
    subst this
    exact ⟨[], ⟨rfl, fun i hi => absurd hi (by simp)⟩, fun j u hj => by simp at hj⟩
  · obtain ⟨b, o, _, _, rfl, _⟩ := h 0 h0
    have hat : ∀ i, i < rows.length → ∃ B c, w.cell? ⟨b, o + i, none⟩ = some (.slice B (ro rows i).length c) ∧ (ro rows i).length ≤ c ∧ Rd w B (ro rows i) := fun i hi => by
      obtain ⟨b', o', B, c, e, hc, hl, hr⟩ := h i hi
      injection e with e
      injection e with e1 e2
      subst e1; subst e2
      exact ⟨B, c, hc, hl, hr⟩
    have hget : ∀ j, j < rows.length → ((List.range rows.length).map fun i => (w.cell? ⟨b, o + i, none⟩).getD undef)[j]? = some ((w.cell? ⟨b, o + j, none⟩).getD undef) := fun j hj => by
      rw [List.getElem?_map, List.getElem?_range hj]; rfl
    refine ⟨(List.range rows.length).map fun i => (w.cell? ⟨b, o + i, none⟩).getD undef, ⟨by simp, fun i hi => ?_⟩, fun j u hj => ⟨b, o, rfl, ?_⟩⟩
    · obtain ⟨B, c, hc, hl, hr⟩ := hat i hi
      exact ⟨B, c, by rw [hget i hi, hc]; rfl, hl, hr⟩
    · have hjl : j < rows.length := by
        have := (List.getElem?_eq_some_iff.1 hj).1
        simpa using this
      obtain ⟨B, c, hc, _⟩ := hat j hjl
      rw [hget j hjl, hc] at hj
      rw [hc]
      exact hj

theorem row_info : (Tryd.prog.info? 23).map (fun i => (i.zero, i.size, i.bytes)) = some (some (.slice none 0 0), 1, 24) := by kernel_rfl
/-- A slice of the call's own, of rows. -/
structure MineR (w : World) (base : Nat) (v : Value) (rows : List (List Nat)) : Prop where
  has : ∃ vs, w.ownsRow base 23 1 v rows.length vs ∧ RowsV w vs rows ∧ Far vs v.ownBlock
theorem MineR.nil (w : World) (base : Nat) : MineR w base (.slice none 0 0) [] := ⟨[], World.ownsRow_nil w base _ _, ⟨rfl, fun i hi => absurd hi (by simp)⟩, fun i b o n c h => by simp at h⟩
theorem mineR_empty (w : World) : MineR (w.alloc (.cells #[] 23)) w.heap.size (.slice (some ⟨w.heap.size, 0, none⟩) 0 0) [] :=
  ⟨[], World.ownsRow_lit w #[] 0 (Nat.le_refl _) (Nat.zero_le _) rfl, ⟨rfl, fun i hi => absurd hi (by simp)⟩, fun i b o n c h => by simp at h⟩
theorem MineR.slice {w : World} {base : Nat} {v : Value} {rows : List (List Nat)} (h : MineR w base v rows) : ∃ A c, v = .slice A rows.length c ∧ rows.length ≤ c ∧ RRd w A rows := by
  obtain ⟨vs, hown, hv, _⟩ := h.has
  rcases hown.2 with ⟨rfl, hn⟩ | ⟨g, cap, cur, rfl, _, hg, hnc, _, _, htake⟩
  · have : rows = [] := List.eq_nil_of_length_eq_zero hn
    subst this
    exact ⟨none, 0, rfl, Nat.le_refl _, RRd.nil _ _⟩
  · refine ⟨_, cap, rfl, hnc, fun i hi => ?_⟩
    obtain ⟨B, c, h1, h2, h3⟩ := hv.2 i hi
    refine ⟨g, 0, B, c, rfl, ?_, h2, h3⟩
    rw [Nat.zero_add, cell_of_row w g i cur _ _ hg, ← h1, ← htake, List.getElem?_take, if_pos (by omega)]
    simp
theorem MineR.block {w : World} {base : Nat} {v : Value} {rows : List (List Nat)} (h : MineR w base v rows) : ∀ k, v.ownBlock = some k → base ≤ k ∧ k < w.heap.size := fun k hk => by
  obtain ⟨vs, hown, _⟩ := h.has
  exact World.ownsRow.lt hown k hk
theorem MineR.ext {w w' : World} {base : Nat} {v : Value} {rows : List (List Nat)} (h : MineR w base v rows) (hx : Ext w w') : MineR w' base v rows := by
  obtain ⟨vs, hown, hv, hf⟩ := h.has
  refine ⟨vs, World.ownsRow.kept hown (row := none) ⟨hx.below.os, hx.below.tape, hx.below.output, hx.below.size, fun k hk _ => hx.below.block k hk⟩ (by
    cases hb : v.ownBlock with
    | none => exact .inl rfl
    | some k => exact .inr (by simp)), hv.ext hx, hf⟩
end Go.Proofs.YtjifionpblpfoaaDoor

/-
  Digests as text; what a call that hands back a digest is to do. Conditions: none.
-/
namespace Go.Proofs.YtjifionpblpfoaaDoor
open Go.RowKit
open Pol (co Sm)

/-- A digit of sixteen; a digest's text. -/
def hxd (x : Nat) : UInt8 := if x < 10 then (48 + x).toUInt8 else (87 + x).toUInt8
def hxs : List Nat → List UInt8
  | [] => []
  | x :: l => hxd (x / 16) :: hxd (x % 16) :: hxs l
theorem hxs_len : ∀ l, (hxs l).length = 2 * l.length
  | [] => rfl
  | x :: l => by rw [hxs, List.length_cons, List.length_cons, hxs_len l, List.length_cons]; omega
theorem hxd_eq : ∀ x, x < 16 → ∀ y, y < 16 → (hxd x == hxd y) = decide (x = y) := by decide
theorem hxd_lt : ∀ x, x < 16 → ∀ y, y < 16 → (decide (hxd x < hxd y)) = decide (x < y) := by decide
theorem hxs_inj : ∀ a b : List Nat, Sm a → Sm b → hxs a = hxs b → a = b
  | [], [], _, _, _ => rfl
  | [], _ :: _, _, _, h => by cases h
  | _ :: _, [], _, _, h => by cases h
  | x :: a, y :: b, ha, hb, h => by
    rw [hxs, hxs, List.cons.injEq, List.cons.injEq] at h
    have hx := sm_head ha
    have hy := sm_head hb
    have h1 := hxd_eq (x / 16) (by omega) (y / 16) (by omega)
    have h2 := hxd_eq (x % 16) (by omega) (y % 16) (by omega)
    rw [h.1, beq_self_eq_true] at h1
    rw [h.2.1, beq_self_eq_true] at h2
    have e1 := of_decide_eq_true h1.symm
    have e2 := of_decide_eq_true h2.symm
    rw [show x = y by omega, hxs_inj a b (sm_tail ha) (sm_tail hb) h.2.2]
theorem hxs_less : ∀ a b : List Nat, a.length = b.length → Sm a → Sm b → Op.bytesLess (hxs a) (hxs b) = lss a b
  | [], [], _, _, _ => rfl
  | [], _ :: _, h, _, _ => by simp at h
  | _ :: _, [], h, _, _ => by simp at h
  | x :: a, y :: b, hl, ha, hb => by
    have ih := hxs_less a b (by simpa using hl) (sm_tail ha) (sm_tail hb)
    have hx := sm_head ha
    have hy := sm_head hb
    have h1 := hxd_eq (x / 16) (by omega) (y / 16) (by omega)
    have h2 := hxd_eq (x % 16) (by omega) (y % 16) (by omega)
    have h3 := hxd_lt (x / 16) (by omega) (y / 16) (by omega)
    have h4 := hxd_lt (x % 16) (by omega) (y % 16) (by omega)
    rw [hxs, hxs, Op.bytesLess, Op.bytesLess, ih, h1, h2, h3, h4, lss]
    by_cases e : x = y
    · subst e
      simp
    · rw [if_neg e]
      by_cases e1 : x / 16 = y / 16
      · have e2 : x % 16 ≠ y % 16 := fun h => e (by omega)
        rw [decide_eq_false (show ¬ x / 16 < y / 16 by omega), decide_eq_true e1, decide_eq_false e2, Bool.false_or, Bool.true_and, Bool.false_and, Bool.or_false]
        by_cases h : x % 16 < y % 16
        · rw [decide_eq_true h, decide_eq_true (show x < y by omega)]
        · rw [decide_eq_false h, decide_eq_false (show ¬ x < y by omega)]
      · rw [decide_eq_false e1, Bool.false_and, Bool.or_false]
        by_cases h : x / 16 < y / 16
        · rw [decide_eq_true h, decide_eq_true (show x < y by omega)]
        · rw [decide_eq_false h, decide_eq_false (show ¬ x < y by omega)]
def DgS (l : List Nat) (w : World) (e : Ending) (w' : World) : Prop := ∃ c, e = .returned (.agg c) ∧ Dgc c l ∧ Ext w w'
def hxb (l : List Nat) : ByteArray := ⟨(hxs l).toArray⟩
theorem hxb_list (l : List Nat) : (hxb l).toList = hxs l := by rw [ByteArray.toList_eq]; rfl
def HexS (l : List Nat) (w : World) (e : Ending) (w' : World) : Prop := Tells (.string (hxb l)) w e w'
end Go.Proofs.YtjifionpblpfoaaDoor

/-
  What the document's own digest is to do, as one statement. Conditions: no more than 2^18 bytes.
-/
namespace Go.Proofs.YtjifionpblpfoaaDoor
open Go.RowKit
open Pol (co Sm)

/-- What the document's own digest is to do. -/
def RefOf : Prop := ∀ (b : List Nat) (A : Option Addr) (cb : Nat) (w : World), Rd w A b → b.length ≤ 262144 → Calls Tryd.prog 37 #[.slice A b.length cb] w (DgS (sha b) w)
end Go.Proofs.YtjifionpblpfoaaDoor

/-
  Two digests are compared byte by byte. Conditions: none; no function is named here.
-/
namespace Go.Proofs.YtjifionpblpfoaaDoor
open Go.RowKit
open Pol (co Sm)

theorem mapM_some {α β : Type} {F : α → Option β} {G : α → β} : ∀ (l : List α), (∀ x ∈ l, F x = some (G x)) → l.mapM F = some (l.map G)
  | [], _ => rfl
  | x :: l, h => by
    rw [List.mapM_cons, h x (by simp), mapM_some l (fun y hy => h y (by simp [hy]))]
    rfl
theorem drop_one (l : List Value) (i : Nat) (h : i < l.length) : (l.drop i).take 1 = [l[i]] := by
  rw [List.drop_eq_getElem_cons h]; rfl
theorem cells32 : Tryd.prog.cellsOf 39 = 32 := by kernel_rfl
theorem cells_u8 : Tryd.prog.cellsOf 5 = 1 := by kernel_rfl
theorem lit_u8 (n : Nat) (h : n < 256) (d : Nat) : Tryd.prog.keyLits (d + 1) 5 [.int .u8 (n : Int)] = some [.int .u8 (n : Int)] := by
  have hw : (Lit.int .u8 (n : Int)).wf = true := by
    simp [Lit.wf, IntKind.min, IntKind.max, IntKind.signed, IntKind.bits]
    omega
  simp [Program.keyLits, Tryd.underlying5, hw]
theorem lits32 (f : Nat → Nat) (hf : ∀ i, i < 32 → f i < 256) : Tryd.prog.keyLits 2 39 (bt 32 f).toList = some ((List.range 32).map fun i => [Lit.int .u8 ((f i : Nat) : Int)]).flatten := by
  have hl : (bt 32 f).toList.length = 32 := by simp [bt_size]
  have hm : (List.range 32).mapM (fun i => Tryd.prog.keyLits 1 5 (((bt 32 f).toList.drop (i * 1)).take 1)) = some ((List.range 32).map fun i => [Lit.int .u8 ((f i : Nat) : Int)]) := mapM_some _ fun i hi => by
    have hi := List.mem_range.1 hi
    rw [Nat.mul_one, drop_one _ i (by rw [hl]; exact hi), show (bt 32 f).toList[i]'(by rw [hl]; exact hi) = .int .u8 ((f i : Nat) : Int) from by
      have h := bt_at 32 f i hi
      rw [← Option.some_inj, ← List.getElem?_eq_getElem, ← h]
      simp]
    exact lit_u8 _ (hf i hi) 0
  unfold Program.keyLits
  rw [Tryd.underlying39]
  simp only [cells32, cells_u8, hl, if_true, hm, Option.map_some]
theorem flat_inj (f g : Nat → Nat) : ∀ n, ((List.range n).map fun i => [Lit.int .u8 ((f i : Nat) : Int)]).flatten = ((List.range n).map fun i => [Lit.int .u8 ((g i : Nat) : Int)]).flatten ↔ ∀ i, i < n → f i = g i := fun n => by
  have e : ∀ h : Nat → Nat, ((List.range n).map fun i => [Lit.int .u8 ((h i : Nat) : Int)]).flatten = (List.range n).map fun i => Lit.int .u8 ((h i : Nat) : Int) := fun h => by
    induction (List.range n) with
    | nil => rfl
    | cons x l ih => simp only [List.map_cons, List.flatten_cons, ih]; rfl
  rw [e, e]
  constructor
  · intro h i hi
    have h1 := congrArg (fun l => l[i]?) h
    simp only [List.getElem?_map, List.getElem?_range hi, Option.map_some, Option.some.injEq, Lit.int.injEq, true_and] at h1
    omega
  · intro h
    exact List.map_congr_left fun i hi => by rw [h i (List.mem_range.1 hi)]
theorem eq32 (f g : Nat → Nat) (hf : ∀ i, i < 32 → f i < 256) (hg : ∀ i, i < 32 → g i < 256) (w : World) : ∃ r : Bool, (Op.equalIn 10000 39 (.agg (bt 32 f)) (.agg (bt 32 g))).run Tryd.prog w = .ok r w ∧ (r = true ↔ ∀ i, i < 32 → f i = g i) := by
  have hk : Tryd.prog.keyTypeAt 2 39 = true := by kernel_rfl
  have hform : ∀ h : Nat → Nat, (Value.agg (bt 32 h)).formed Tryd.prog 39 = true := fun h => by
    simp [Value.formed, Tryd.underlying39, bt_size, cells32]
  obtain ⟨r, h1, h2⟩ := run_equalIn_deep 9998 2 39 hk w 2 2 (.agg (bt 32 f)) (.agg (bt 32 g)) _ _ (hform f) (hform g) (lits32 f hf) (lits32 g hg)
  exact ⟨r, h1, h2.trans (flat_inj f g 32)⟩
theorem eq32_same (f : Nat → Nat) (hf : ∀ i, i < 32 → f i < 256) (w : World) : (Op.equalIn 10000 39 (.agg (bt 32 f)) (.agg (bt 32 f))).run Tryd.prog w = .ok true w := by
  obtain ⟨r, h1, h2⟩ := eq32 f f hf hf w
  rw [h1, h2.2 (fun _ _ => rfl)]
end Go.Proofs.YtjifionpblpfoaaDoor

/-
  Blocks that hold a digest: thirty-two bytes as a function of the place. Conditions: none; no function is named here.
-/
namespace Go.Proofs.YtjifionpblpfoaaDoor
open Go.RowKit
open Pol (co Sm)

/-! ### Digests -/
/-- Thirty-two bytes, as far as they go. -/
def dig (s : List Nat) : List Nat := tab 32 (co s)
theorem dig_len (s : List Nat) : (dig s).length = 32 := tab_len _ _
theorem dig_sm {s : List Nat} (h : Sm s) : Sm (dig s) := tab_sm _ _ fun i _ => h i
def DBlk (w : World) (g : Nat) (f : Nat → Nat) : Prop := w.heap[g]? = some (.cells (bt 32 f) 39 (0, 0))
theorem DBlk.cell {w : World} {g : Nat} {f : Nat → Nat} (h : DBlk w g f) (i : Nat) (hi : i < 32) : w.cell? ⟨g, i, none⟩ = some (.int .u8 ((f i : Nat) : Int)) := by rw [cell_of_row w g i _ _ _ h, bt_at 32 f i hi]
theorem DBlk.frozen {w : World} {g : Nat} {f : Nat → Nat} (h : DBlk w g f) (i : Nat) : w.frozen? ⟨g, i, none⟩ = false := frozen_of_row w g i _ _ h
theorem DBlk.store {w : World} {g : Nat} {f : Nat → Nat} (h : DBlk w g f) (k v : Nat) : DBlk (w.setCell ⟨g, k, none⟩ (.int .u8 (v : Int))) g (upd f k v) := by
  unfold DBlk
  rw [heap_setCell_same w g k _ _ _ h, bt_set]
theorem DBlk.congr {w : World} {g : Nat} {f f' : Nat → Nat} (h : DBlk w g f) (hf : ∀ i, i < 32 → f i = f' i) : DBlk w g f' := by
  have e : bt 32 f = bt 32 f' := by
    apply Array.ext (by simp [bt])
    intro i h1 h2
    have hi : i < 32 := by simpa [bt] using h1
    simp [bt, hf i hi]
  unfold DBlk
  rw [← e]
  exact h
theorem zero_digest : (∀ w, (zeroValue 39).run Tryd.prog w = .ok (.agg (bt 32 fun _ => 0)) w) ∧ (Tryd.prog.info? 39).map (·.size) = some 32 := by
  have e : bt 32 (fun _ => 0) = Array.replicate 32 (.int .u8 0) := by
    apply Array.ext (by simp [bt])
    intro i h1 h2
    simp [bt]
  rw [e]
  exact zero_of_info (by kernel_rfl)
theorem bt_one (n : Nat) (f : Nat → Nat) : (bt n f).all (·.oneCell') = true := by
  rw [Array.all_eq_true]; intro i h; simp [bt, Value.oneCell']
theorem bt_dig (s : List Nat) : bt 32 (co s) = (bv (dig s)).toArray := by
  apply Array.ext
  · rw [bt_size]; simp [bv_len, dig_len]
  · intro i h1 h2
    rw [bt_size] at h1
    rw [← Option.some_inj, ← Array.getElem?_eq_getElem, ← Array.getElem?_eq_getElem, bt_at _ _ _ h1, List.getElem?_toArray, bv_at _ _ (by rw [dig_len]; exact h1)]
    unfold dig
    rw [co_tab, if_pos h1]

theorem info32 (f : Nat → Nat) : (Tryd.prog.info? 39).map (·.size) = some (bt 32 f).size := by rw [bt_size]; exact zero_digest.2
theorem load32 (w : World) (g : Nat) (f : Nat → Nat) (hg : DBlk w g f) : (Instr.loadAt 39 (.pointer (some ⟨g, 0, none⟩))).run Tryd.prog w = .ok (.agg (bt 32 f)) w :=
  run_load_all w g 39 _ 32 5 Tryd.underlying39 hg (info32 f)
theorem store32 (w : World) (g : Nat) (f f' : Nat → Nat) (hg : DBlk w g f) : (storeCells ⟨g, 0, none⟩ (bt 32 f').toList).run Tryd.prog w = .ok () (w.setRow g (bt 32 f')) := by
  have h := run_storeCells_from (P := Tryd.prog) g 39 (bt 32 f').toList 0 (bt 32 f) w hg (by simp [bt_size]) (fun v hv => (Array.all_eq_true_iff_forall_mem.1 (bt_one 32 f')) v (by simpa using hv))
  simpa using h
end Go.Proofs.YtjifionpblpfoaaDoor

/-
  Digests compared; literals of bytes and of digests. Conditions: none.
-/
namespace Go.Proofs.YtjifionpblpfoaaDoor
open Go.RowKit
open Pol (co Sm)

theorem Dgc.is {c : Array Value} {l : List Nat} (h : Dgc c l) : c = bt 32 (co l) := by
  apply Array.ext
  · rw [h.1, bt_size]
  · intro i h1 h2
    have hi : i < 32 := by rw [← h.1]; exact h1
    rw [← Option.some_inj, ← Array.getElem?_eq_getElem, ← Array.getElem?_eq_getElem, h.2 i hi, bt_at 32 _ i hi]
theorem bt_dgc (l : List Nat) : Dgc (bt 32 (co l)) l := ⟨bt_size _ _, fun i hi => bt_at 32 _ i hi⟩
theorem co_ext32 {a b : List Nat} (ha : a.length = 32) (hb : b.length = 32) (h : ∀ i, i < 32 → co a i = co b i) : a = b := by
  apply List.ext_getElem (by omega)
  intro j h1 h2
  have := h j (by omega)
  unfold co at this
  rw [List.getElem?_eq_getElem h1, List.getElem?_eq_getElem h2] at this
  exact this
/-- Two digests compared. -/
theorem eq_dgc {c d : Array Value} {a b : List Nat} (hc : Dgc c a) (hd : Dgc d b) (ha : a.length = 32) (hb : b.length = 32) (hsa : Sm a) (hsb : Sm b) (W : World) : (Op.equalIn 10000 39 (.agg c) (.agg d)).run Tryd.prog W = .ok (decide (a = b)) W := by
  obtain ⟨r, h1, h2⟩ := eq32 (co a) (co b) (fun i _ => hsa i) (fun i _ => hsb i) W
  rw [hc.is, hd.is, h1]
  by_cases e : a = b
  · rw [decide_eq_true e, h2.2 (fun i _ => by rw [e])]
  · have hr : r = false := by
      cases r
      · rfl
      · exact absurd (co_ext32 ha hb (h2.1 rfl)) e
    rw [decide_eq_false e, hr]
theorem run_eq_dgc {c d : Array Value} {a b : List Nat} (hc : Dgc c a) (hd : Dgc d b) (ha : a.length = 32) (hb : b.length = 32) (hsa : Sm a) (hsb : Sm b) (W : World) : (binOp .eql 39 (.agg c) (.agg d)).run Tryd.prog W = .ok (.bool (decide (a = b))) W := by
  simp only [binOp]
  simp [Op.equal, Op.maxDepth, eq_dgc hc hd ha hb hsa hsb W]
def AfterH (u w : World) : Prop := Ext u w
def one32 (x : Nat) : List Nat := x :: List.replicate 31 0
theorem one32_len (x : Nat) : (one32 x).length = 32 := rfl
theorem rd_mark10 (w : World) (l : List Nat) (fr : Nat × Nat) (h : Sm l) : Rd (w.alloc (.cells (bv l).toArray 5 fr)) (some ⟨w.heap.size, 0, none⟩) l :=
  ⟨h, fun i hi => ⟨w.heap.size, 0, rfl, by
    rw [cell_of_row _ _ _ _ _ _ (heap_alloc_new w _), Nat.zero_add]
    simpa using bv_at l i hi⟩⟩
theorem bv_dgc {l : List Nat} (h : l.length = 32) : Dgc (bv l).toArray l := ⟨by simp [bv_len, h], fun i hi => by rw [List.getElem?_toArray]; exact bv_at l i (by omega)⟩
def shabc : List Nat := sha [97, 98, 99]
theorem shabc_is : shabc = [186, 120, 22, 191, 143, 1, 207, 234, 65, 65, 64, 222, 93, 174, 34, 35, 176, 3, 97, 163, 150, 23, 122, 156, 180, 16, 255, 97, 242, 0, 21, 173] := sha_abc
theorem run_ne_dgc {c d : Array Value} {a b : List Nat} (hc : Dgc c a) (hd : Dgc d b) (ha : a.length = 32) (hb : b.length = 32) (hsa : Sm a) (hsb : Sm b) (W : World) : (binOp .neq 39 (.agg c) (.agg d)).run Tryd.prog W = .ok (.bool (!decide (a = b))) W := by
  simp only [binOp]
  simp [Op.equal, Op.maxDepth, eq_dgc hc hd ha hb hsa hsb W]
end Go.Proofs.YtjifionpblpfoaaDoor

/-
  A digest's cells, laid into a new block. Conditions: none.
-/
namespace Go.Proofs.YtjifionpblpfoaaDoor
open Go.RowKit
open Pol (co Sm)

/-- A block that was made stays. -/
theorem WBlk.ext' {w w' : World} {g : Nat} {V : Array Value} {T : TypeId} (h : w.heap[g]? = some (.cells V T (0, 0))) (hx : Ext w w') : w'.heap[g]? = some (.cells V T (0, 0)) :=
  (hx.below.block g (Array.getElem?_eq_some_iff.1 h).1).trans h
theorem Dgc.one {V : Array Value} {l : List Nat} (h : Dgc V l) : V.all (·.oneCell') = true := by
  rw [Array.all_eq_true]
  intro i hi
  have e := h.2 i (by rw [h.1] at hi; exact hi)
  rw [Array.getElem?_eq_getElem hi] at e
  injection e with e
  rw [e]
  rfl
theorem Dgc.info {V : Array Value} {l : List Nat} (h : Dgc V l) : (Tryd.prog.info? 39).map (·.size) = some V.size := by rw [h.1]; exact zero_digest.2
/-- A digest's cells, laid into a new block. -/
theorem dg_put {c : Array Value} {l : List Nat} (h : Dgc c l) : (Tryd.prog.info? 39).map (·.size) = some c.size ∧ (bt 32 fun _ => 0).size = c.size ∧ c.all (·.oneCell') = true := by
  refine ⟨by rw [h.1]; exact zero_digest.2, by rw [bt_size, h.1], ?_⟩
  rw [h.is]
  exact bt_one 32 _
end Go.Proofs.YtjifionpblpfoaaDoor

/-
  What the document's own Id of layer 16 does. Conditions: an envelope of no more than 2^16 bytes.
-/
namespace Go.Proofs.YtjifionpblpfoaaDoor
open Go.RowKit
open Pol (co Sm)

/-- What an envelope is called, over a digest. -/
def idv (D : List Nat → List Nat) (e : Ev) : List Nat := if e.ok then D e.enc else List.replicate 32 0
theorem idv_ok {D : List Nat → List Nat} {e : Ev} (h : e.ok) : idv D e = D e.enc := if_pos h
theorem idv_no {D : List Nat → List Nat} {e : Ev} (h : ¬ e.ok) : idv D e = List.replicate 32 0 := if_neg h
theorem dgc_zero : Dgc (bt 32 fun _ => 0) (List.replicate 32 0) := ⟨bt_size _ _, fun i hi => by
  rw [bt_at 32 _ i hi]
  unfold co
  rw [List.getElem?_replicate, if_pos hi]
  rfl⟩
set_option maxHeartbeats 3200000 in
set_option maxRecDepth 100000 in
theorem ref16_id (R : RefOf) (s : Int) (nn f x k c : Nat) (b : List Nat) (A : Option Addr) (w : World) (hn : b.length = k) (hr : Rd w A b) (hl : k ≤ 65536) (h1 : nn < 18446744073709551616) (h2 : f < 18446744073709551616) (h3 : x < 18446744073709551616) :
    Calls Tryd.prog 17 #[evv s nn f x A k c] w (DgS (idv sha ⟨s, nn, f, x, b⟩) w) := by
  unfold DgS
  have hz := zero_digest.1
  have HZD := Lib.hid (dgc_zero)
  obtain ⟨Z, hZ⟩ : ∃ Z, (bt 32 fun _ => 0) = Z := ⟨_, rfl⟩
  rw [hZ] at hz HZD
  have hx2 := ((Ext.refl w).alloc (.cells #[.int .i64 s, .int .u64 (nn : Int), .int .u64 (f : Int), .int .u64 (x : Int), .slice A k c] 25)).alloc (.cells Z 39)
  have hg0 : ((w.alloc (.cells #[.int .i64 s, .int .u64 (nn : Int), .int .u64 (f : Int), .int .u64 (x : Int), .slice A k c] 25)).alloc (.cells Z 39)).heap[w.heap.size]? = some (.cells #[.int .i64 s, .int .u64 (nn : Int), .int .u64 (f : Int), .int .u64 (x : Int), .slice A k c] 25) := by
    rw [heap_alloc_old _ _ (by simp)]
    exact heap_alloc_new w _
  have hr0 : ((w.alloc (.cells #[.int .i64 s, .int .u64 (nn : Int), .int .u64 (f : Int), .int .u64 (x : Int), .slice A k c] 25)).alloc (.cells Z 39)).heap[w.heap.size + 1]? = some (.cells Z 39 (0, 0)) := by
    have h := heap_alloc_new (w.alloc (.cells #[.int .i64 s, .int .u64 (nn : Int), .int .u64 (f : Int), .int .u64 (x : Int), .slice A k c] 25)) (.cells Z 39)
    rwa [show (w.alloc (.cells #[.int .i64 s, .int .u64 (nn : Int), .int .u64 (f : Int), .int .u64 (x : Int), .slice A k c] 25)).heap.size = w.heap.size + 1 from by simp] at h
  have HX2 := Lib.hid hx2
  have HG0 := Lib.hid hg0
  have HR0 := Lib.hid hr0
  have HCK := Lib.hid (fun u => ref16_check s nn f x k c b A u hn)
  by_cases ho : Ev.ok ⟨s, nn, f, x, b⟩
  · rw [Ev.chk_ok.2 ho] at HCK
    rw [idv_ok ho]
    have hs0 : 0 ≤ s := ho.1
    have hs6 : s < 6 := ho.2.1
    obtain ⟨ss, rfl⟩ : ∃ q : Nat, (q : Int) = s := ⟨s.toNat, by omega⟩
    have HBY := Lib.hid (fun u (hu : Ext w u) => ref16_bytes ss nn f x k c b A u hn (hr.ext hu) hl (by omega) h1 h2 h3)
    have hlen := Ev.enc_len ho ⟨h1, h2, h3, hr.1⟩
    have HSM := Lib.hid (Ev.enc_sm (e := ⟨(ss : Int), nn, f, x, b⟩) hr.1)
    obtain ⟨E, hE⟩ : ∃ E, Ev.enc ⟨(ss : Int), nn, f, x, b⟩ = E := ⟨_, rfl⟩
    rw [hE] at HBY hlen HSM ⊢
    obtain ⟨ne, hne⟩ : ∃ q, E.length = q := ⟨_, rfl⟩
    have HNE := Lib.hid hne
    have HOF := Lib.hid (fun B cb u (h : Rd u B E) => show Calls Tryd.prog 37 #[.slice B ne cb] u (DgS (sha E) u) from by rw [← hne]; exact R E B cb u h (by omega))
    obtain ⟨D, hD⟩ : ∃ D, sha E = D := ⟨_, rfl⟩
    rw [hD] at HOF ⊢
    unfold DgS at HOF
    clear hr hlen hE hne hD ho hs0 hs6 hg0 hr0 hx2
    go_enter Tryd.func17, Tryd.ntmps17
    go_wp2_with (with_reducible refine wpList_load_row rfl 25 (.tmp 1) rfl w.heap.size rfl 25 #[.int .i64 (ss : Int), .int .u64 (nn : Int), .int .u64 (f : Int), .int .u64 (x : Int), .slice A k c] (0, 0) _ HG0.out Tryd.underlying25 rfl ev_in16 ?_)
    refine (HCK.out _).mono ?_
    rintro e w1 ⟨rfl, hx1⟩
    have HX1 := Lib.hid (HX2.out.trans hx1)
    have HR1 := Lib.hid (hx1.row HR0.out)
    have HG1 := Lib.hid (hx1.row HG0.out)
    clear hx1 HR0 HG0 HX2
    go_wp2_with (with_reducible refine wpList_load_row rfl 25 (.tmp 1) rfl w.heap.size rfl 25 #[.int .i64 (ss : Int), .int .u64 (nn : Int), .int .u64 (f : Int), .int .u64 (x : Int), .slice A k c] (0, 0) _ HG1.out Tryd.underlying25 rfl ev_in16 ?_)
    refine (HBY.out _ HX1.out).mono ?_
    rintro e w2 ⟨v2, rfl, hm2, hx2⟩
    obtain ⟨B2, c2, rfl, hc2, hr2⟩ := hm2.slice HSM.out
    rw [HNE.out] at hc2 ⊢
    have HX2 := Lib.hid (HX1.out.trans hx2)
    have HR2 := Lib.hid (hx2.row HR1.out)
    have HB2 := Lib.hid hr2
    clear hx2 hm2 hr2 hc2
    go_wp2_with fail
    refine (HOF.out B2 c2 w2 HB2.out).mono ?_
    rintro e w3 ⟨V, rfl, hV, hx3⟩
    have HV := Lib.hid hV
    have HX3 := Lib.hid (HX2.out.trans hx3)
    have HR3 := Lib.hid (hx3.row HR2.out)
    have HI3 := Lib.hid hV.info
    have HO3 := Lib.hid hV.one
    have HS3 := Lib.hid (show Z.size = V.size from by rw [hV.1]; exact HZD.out.1)
    have HXF := Lib.hid (HX3.out.setRow (g := w.heap.size + 1) (by omega) V)
    have HGF := Lib.hid (setRow_heap w3 (w.heap.size + 1) _ V _ _ HR3.out)
    clear hV hx3
    go_wp2_with (with_reducible refine wpList_store_all rfl 39 (.tmp 2) (.tmp 9) rfl (w.heap.size + 1) _ V rfl rfl HR3.out HI3.out HS3.out HO3.out ?_)
    refine bodyPost_ret (results_cell_row Tryd.results17 _ _ (w.heap.size + 1) 39 _ (0, 0) _ rfl HGF.out Tryd.underlying39 rfl HI3.out) rfl ?_
    exact ⟨V, rfl, HV.out, HXF.out⟩
  · rw [idv_no ho]
    have hc0 : Ev.chk ⟨s, nn, f, x, b⟩ ≠ 0 := fun h => ho (Ev.chk_ok.1 h)
    obtain ⟨ck, hck⟩ : ∃ q, Ev.chk ⟨s, nn, f, x, b⟩ = q := ⟨_, rfl⟩
    rw [hck] at HCK hc0
    have d1 : ((ck : Int) == 0) = false := by simp; omega
    have d2 : ((ck : Int) != 0) = true := by simp; omega
    have d3 : decide ((ck : Int) = 0) = false := decide_eq_false (by omega)
    have d4 : decide (ck = 0) = false := decide_eq_false hc0
    clear hr hck hc0 ho hg0 hr0 hx2
    go_enter Tryd.func17, Tryd.ntmps17
    go_wp2_with (with_reducible refine wpList_load_row rfl 25 (.tmp 1) rfl w.heap.size rfl 25 #[.int .i64 s, .int .u64 (nn : Int), .int .u64 (f : Int), .int .u64 (x : Int), .slice A k c] (0, 0) _ HG0.out Tryd.underlying25 rfl ev_in16 ?_)
    refine (HCK.out _).mono ?_
    rintro e w1 ⟨rfl, hx1⟩
    have HX1 := Lib.hid (HX2.out.trans hx1)
    have HR1 := Lib.hid (hx1.row HR0.out)
    have HI3 := Lib.hid HZD.out.info
    have HO3 := Lib.hid HZD.out.one
    have HXF := Lib.hid (HX1.out.setRow (g := w.heap.size + 1) (by omega) Z)
    have HGF := Lib.hid (setRow_heap w1 (w.heap.size + 1) _ Z _ _ HR1.out)
    have HSZ := HZD.out.1
    clear hx1
    go_wp2_with (with_reducible refine wpList_store_all rfl 39 (.tmp 2) (.tmp 6) rfl (w.heap.size + 1) _ Z rfl rfl HR1.out HI3.out (HSZ.trans HSZ.symm) HO3.out ?_)
    refine bodyPost_ret (results_cell_row Tryd.results17 _ _ (w.heap.size + 1) 39 _ (0, 0) _ rfl HGF.out Tryd.underlying39 rfl HI3.out) rfl ?_
    exact ⟨Z, rfl, HZD.out, HXF.out⟩
end Go.Proofs.YtjifionpblpfoaaDoor
