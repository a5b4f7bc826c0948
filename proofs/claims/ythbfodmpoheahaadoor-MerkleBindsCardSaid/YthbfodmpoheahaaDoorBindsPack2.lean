/-
  Part 2 of the texts that the seat's proofs stand on; each part of it begins with its own sentence and conditions. Conditions: those that each theorem names.
-/
import Derived.Test.YthbfodmpoheahaaDoorBindsPack1

/-
  What layer 8's functions are to answer: numbers as varints, and what is read of bytes. Conditions: none; no function is named here.
-/
namespace Go.Proofs.YthbfodmpoheahaaDoor
open Go.RowKit
open Pol (co Sm)

/-- What is read, and what is left; or an error. -/
inductive Rs (α : Type) where
  | ok (a : α) (rest : List Nat)
  | er (e : Nat)
  deriving DecidableEq
/-- A number's bytes. -/
def vn (n : Nat) : List Nat := if n < 128 then [n] else (n % 128 + 128) :: vn (n / 128)
termination_by n
decreasing_by omega
/-- A number is read: i bytes were, that come to n. -/
def rv (most : Nat) : Nat → Nat → List Nat → Rs Nat
  | _, _, [] => .er 2
  | i, n, b :: l => if i = 9 ∧ 1 < b ∨ 0 < i ∧ b = 0 then .er 14 else if b < 128 then (if most < n + b % 128 * 128 ^ i then .er 10 else .ok (n + b % 128 * 128 ^ i) l) else rv most (i + 1) (n + b % 128 * 128 ^ i) l
def rdN (most : Nat) (l : List Nat) : Rs Nat := rv most 0 0 l
/-- So many bytes are read. -/
def rdB (n : Nat) (l : List Nat) : Rs (List Nat) := if l.length < n then .er 2 else .ok (l.take n) (l.drop n)
def Rs.bind {α β : Type} (r : Rs α) (f : α → List Nat → Rs β) : Rs β := match r with | .ok a l => f a l | .er e => .er e
def rdT (longest : Nat) (l : List Nat) : Rs (List Nat) := (rdN longest l).bind rdB
def vt (t : List Nat) : List Nat := vn t.length ++ t

theorem vn_lt {n : Nat} (h : n < 128) : vn n = [n] := by rw [vn, if_pos h]
theorem vn_ge {n : Nat} (h : ¬ n < 128) : vn n = (n % 128 + 128) :: vn (n / 128) := by rw [vn, if_neg h]
theorem vn_sm : ∀ n, Sm (vn n) := fun n => by
  induction n using Nat.strongRecOn with
  | _ n ih =>
    by_cases h : n < 128
    · rw [vn_lt h]; exact Sm.cons (by omega) Sm.nil
    · rw [vn_ge h]; exact Sm.cons (by omega) (ih _ (by omega))
theorem vn_pos : ∀ n, 0 < (vn n).length := fun n => by
  by_cases h : n < 128
  · rw [vn_lt h]; simp
  · rw [vn_ge h]; simp
/-- A number of i bytes more is no more than ten bytes long. -/
theorem vn_len : ∀ (k n : Nat), n < 128 ^ (k + 1) → (vn n).length ≤ k + 1
  | 0, n, h => by rw [vn_lt (by omega)]; simp
  | k + 1, n, h => by
    by_cases hn : n < 128
    · rw [vn_lt hn]; simp
    · rw [vn_ge hn, List.length_cons]
      have := vn_len k (n / 128) (by rw [Nat.pow_succ] at h; omega)
      omega
theorem vn_zero : ∀ n l, vn n ≠ 0 :: l ∨ (n = 0 ∧ l = []) := fun n l => by
  by_cases h : n < 128
  · rw [vn_lt h]
    by_cases h0 : n = 0
    · by_cases hl : l = []
      · exact .inr ⟨h0, hl⟩
      · left; intro e; injection e with _ e; exact hl e.symm
    · left; intro e; injection e with e _; exact h0 e
  · rw [vn_ge h]
    left; intro e; injection e with e _; omega

/-- What was laid is read. -/
theorem rv_vn (most : Nat) (rest : List Nat) : ∀ (k i n acc : Nat), i + k = 9 → (i = 0 ∨ 0 < n) → n < 2 ^ (64 - 7 * i) → acc + n * 128 ^ i ≤ most ∨ most < acc + n * 128 ^ i →
    rv most i acc (vn n ++ rest) = if most < acc + n * 128 ^ i then .er 10 else .ok (acc + n * 128 ^ i) rest
  | k, i, n, acc, hik, h0, hn, _ => by
    by_cases h : n < 128
    · rw [vn_lt h, List.singleton_append, rv, if_neg, if_pos h, Nat.mod_eq_of_lt h]
      rintro (⟨h9, h1⟩ | ⟨hi, hz⟩)
      · subst h9
        have : n < 2 ^ 1 := hn
        omega
      · omega
    · have hi : i ≠ 9 := fun e => by
        subst e
        have : n < 2 ^ 1 := hn
        omega
      rw [vn_ge h, List.cons_append, rv, if_neg (by omega), if_neg (by omega)]
      have e1 : acc + (n % 128 + 128) % 128 * 128 ^ i + n / 128 * 128 ^ (i + 1) = acc + n * 128 ^ i := by
        rw [Nat.add_mod_right, Nat.mod_mod, Nat.pow_succ, Nat.add_assoc]
        congr 1
        rw [Nat.mul_comm (128 ^ i) 128, ← Nat.mul_assoc, ← Nat.add_mul]
        congr 1
        omega
      match k, hik with
      | 0, hik => omega
      | k + 1, hik =>
        rw [rv_vn most rest k (i + 1) (n / 128) _ (by omega) (.inr (by omega)) (by
          have e : 64 - 7 * i = (64 - 7 * (i + 1)) + 7 := by omega
          rw [e, Nat.pow_add] at hn
          omega) (by omega), e1]
theorem rdN_vn (most n : Nat) (rest : List Nat) (h : n < 2 ^ 64) : rdN most (vn n ++ rest) = if most < n then .er 10 else .ok n rest := by
  unfold rdN
  rw [rv_vn most rest 9 0 n 0 (by omega) (.inl rfl) h (by omega), Nat.pow_zero, Nat.mul_one, Nat.zero_add]
/-- What is read was laid so. -/
theorem sm_head {b : Nat} {l : List Nat} (h : Sm (b :: l)) : b < 256 := by have := h 0; rwa [Pol.co_zero] at this
theorem sm_tail {b : Nat} {l : List Nat} (h : Sm (b :: l)) : Sm l := fun i => by have := h (i + 1); rwa [Pol.co_succ] at this
theorem vn_rv (most : Nat) : ∀ (l : List Nat) (i acc n : Nat) (rest : List Nat), Sm l → i ≤ 9 → rv most i acc l = .ok n rest → ∃ m, l = vn m ++ rest ∧ n = acc + m * 128 ^ i ∧ m < 2 ^ (64 - 7 * i) ∧ (i = 0 ∨ 0 < m) ∧ n ≤ most
  | [], _, _, _, _, _, _, h => by rw [rv] at h; cases h
  | b :: l, i, acc, n, rest, hs, hi, h => by
    rw [rv] at h
    split at h
    · cases h
    · rename_i hk
      split at h
      · rename_i hb
        split at h
        · cases h
        · rename_i hm
          injection h with h1 h2
          subst h1; subst h2
          refine ⟨b, by rw [vn_lt hb]; rfl, by rw [Nat.mod_eq_of_lt hb], ?_, by omega, by omega⟩
          rcases Nat.lt_or_ge i 9 with h9 | h9
          · exact Nat.lt_of_lt_of_le hb (by
              have : 2 ^ 7 ≤ 2 ^ (64 - 7 * i) := Nat.pow_le_pow_right (by omega) (by omega)
              exact this)
          · obtain rfl : i = 9 := by omega
            show b < 2 ^ 1
            omega
      · rename_i hb
        have hi9 : i ≠ 9 := fun e => by omega
        obtain ⟨m, rfl, rfl, hm, hpos, hle⟩ := vn_rv most l (i + 1) _ n rest (sm_tail hs) (by omega) h
        have hm0 : 0 < m := by omega
        have hb2 := sm_head hs
        refine ⟨b % 128 + m * 128, ?_, ?_, ?_, .inr (by omega), hle⟩
        · rw [vn_ge (n := b % 128 + m * 128) (by omega), show (b % 128 + m * 128) / 128 = m from by omega, show (b % 128 + m * 128) % 128 + 128 = b from by omega]
          rfl
        · rw [Nat.pow_succ, Nat.add_mul, Nat.add_assoc]
          congr 1
          rw [Nat.mul_comm (128 ^ i) 128, ← Nat.mul_assoc]
        · have e : 64 - 7 * i = (64 - 7 * (i + 1)) + 7 := by omega
          rw [e, Nat.pow_add]
          omega
theorem vn_rdN {most n : Nat} {l rest : List Nat} (hs : Sm l) (h : rdN most l = .ok n rest) : l = vn n ++ rest ∧ n < 2 ^ 64 ∧ n ≤ most := by
  obtain ⟨m, h1, h2, h3, _, h4⟩ := vn_rv most l 0 0 n rest hs (by omega) h
  rw [Nat.pow_zero, Nat.mul_one, Nat.zero_add] at h2
  subst h2
  exact ⟨h1, h3, h4⟩
/-- What was laid, and cut short, is too short. -/
theorem rv_cut (most : Nat) : ∀ (k i n acc c : Nat), i + k = 9 → (i = 0 ∨ 0 < n) → n < 2 ^ (64 - 7 * i) → c < (vn n).length → rv most i acc ((vn n).take c) = .er 2
  | k, i, n, acc, 0, _, _, _, _ => by rw [List.take_zero, rv]
  | k, i, n, acc, c + 1, hik, h0, hn, hc => by
    by_cases h : n < 128
    · rw [vn_lt h] at hc
      simp at hc
    · have hi : i ≠ 9 := fun e => by
        subst e
        have : n < 2 ^ 1 := hn
        omega
      rw [vn_ge h, List.length_cons] at hc
      rw [vn_ge h, List.take_succ_cons, rv, if_neg (by omega), if_neg (by omega)]
      match k, hik with
      | 0, hik => omega
      | k + 1, hik =>
        exact rv_cut most k (i + 1) (n / 128) _ c (by omega) (.inr (by omega)) (by
          have e : 64 - 7 * i = (64 - 7 * (i + 1)) + 7 := by omega
          rw [e, Nat.pow_add] at hn
          omega) (by omega)
theorem rdN_cut (most n c : Nat) (h : n < 2 ^ 64) (hc : c < (vn n).length) : rdN most ((vn n).take c) = .er 2 := rv_cut most 9 0 n 0 c (by omega) (.inl rfl) h hc
theorem rdT_vt (longest : Nat) (t rest : List Nat) (h : t.length < 2 ^ 64) : rdT longest (vt t ++ rest) = if longest < t.length then .er 10 else .ok t rest := by
  unfold rdT vt
  rw [List.append_assoc, rdN_vn _ _ _ h]
  split
  · rfl
  · unfold Rs.bind rdB
    simp only
    rw [if_neg (by rw [List.length_append]; omega), List.take_left, List.drop_left]
theorem vt_rdT {longest : Nat} {l t rest : List Nat} (hs : Sm l) (h : rdT longest l = .ok t rest) : l = vt t ++ rest ∧ t.length ≤ longest ∧ t.length < 2 ^ 64 := by
  unfold rdT at h
  cases hn : rdN longest l with
  | er e => rw [hn] at h; cases h
  | ok n r =>
    rw [hn] at h
    unfold Rs.bind rdB at h
    simp only at h
    split at h
    · cases h
    · rename_i hl
      injection h with h1 h2
      obtain ⟨e1, e2, e3⟩ := vn_rdN hs hn
      have hlen : t.length = n := by rw [← h1, List.length_take]; omega
      refine ⟨?_, by omega, by omega⟩
      unfold vt
      rw [hlen, e1, List.append_assoc, ← h1, ← h2, List.take_append_drop]
theorem rdB_ok {n : Nat} {l t rest : List Nat} (h : rdB n l = .ok t rest) : l = t ++ rest ∧ t.length = n := by
  unfold rdB at h
  split at h
  · cases h
  · injection h with h1 h2
    exact ⟨by rw [← h1, ← h2, List.take_append_drop], by rw [← h1, List.length_take]; omega⟩
theorem rdB_app (t rest : List Nat) : rdB t.length (t ++ rest) = .ok t rest := by
  unfold rdB
  rw [if_neg (by rw [List.length_append]; omega), List.take_left, List.drop_left]
/-- An error is not 0. -/
theorem rv_er (most : Nat) : ∀ (l : List Nat) (i n e : Nat), rv most i n l = .er e → 0 < e ∧ e < 17
  | [], _, _, _, h => by rw [rv] at h; injection h with h; omega
  | b :: l, i, n, e, h => by
    rw [rv] at h
    split at h
    · injection h with h; omega
    · split at h
      · split at h
        · injection h with h; omega
        · cases h
      · exact rv_er most l _ _ e h
theorem rdN_er {most e : Nat} {l : List Nat} (h : rdN most l = .er e) : 0 < e ∧ e < 17 := rv_er most l 0 0 e h
theorem rdB_er {n e : Nat} {l : List Nat} (h : rdB n l = .er e) : 0 < e ∧ e < 17 := by
  unfold rdB at h
  split at h
  · injection h with h; omega
  · cases h
theorem rdT_er {m e : Nat} {l : List Nat} (h : rdT m l = .er e) : 0 < e ∧ e < 17 := by
  unfold rdT at h
  cases hr : rdN m l with
  | er e' =>
    rw [hr] at h
    injection h with h
    rw [← h]
    exact rdN_er hr
  | ok n r =>
    rw [hr] at h
    exact rdB_er h
theorem sm_app {a b : List Nat} (ha : Sm a) (hb : Sm b) : Sm (a ++ b) := Pol.co_lt_of fun z hz => by
  rcases List.mem_append.1 hz with h | h
  · exact ha.mem z h
  · exact hb.mem z h
theorem sm_split {a b : List Nat} (h : Sm (a ++ b)) : Sm a ∧ Sm b := ⟨Pol.co_lt_of fun z hz => h.mem z (List.mem_append.2 (.inl hz)), Pol.co_lt_of fun z hz => h.mem z (List.mem_append.2 (.inr hz))⟩
theorem vt_sm {t : List Nat} (h : Sm t) : Sm (vt t) := sm_app (vn_sm _) h
theorem vn_ten {n : Nat} (h : n < 18446744073709551616) : (vn n).length ≤ 10 := vn_len 9 n (by omega)
end Go.Proofs.YthbfodmpoheahaaDoor

/-
  SHA-256 in plain numbers: words, blocks, rounds; digests in order; texts one behind the other. Conditions: none; no function is named here.
-/
namespace Go.Proofs.YthbfodmpoheahaaDoor
open Pol (co Sm)

/-- A word turned to the right. -/
def tw (x n : Nat) : Nat := x / 2 ^ n ||| x * 2 ^ (32 - n) % 4294967296
theorem tw_lt {x n : Nat} (h : x < 4294967296) : tw x n < 4294967296 := Nat.or_lt_two_pow (n := 32) (Nat.lt_of_le_of_lt (Nat.div_le_self _ _) h) (Nat.mod_lt _ (by decide))
def sg0 (x : Nat) : Nat := tw x 7 ^^^ tw x 18 ^^^ x / 8
def sg1 (x : Nat) : Nat := tw x 17 ^^^ tw x 19 ^^^ x / 1024
theorem sg0_lt {x : Nat} (h : x < 4294967296) : sg0 x < 4294967296 := Nat.xor_lt_two_pow (n := 32) (Nat.xor_lt_two_pow (n := 32) (tw_lt h) (tw_lt h)) (Nat.lt_of_le_of_lt (Nat.div_le_self _ _) h)
theorem sg1_lt {x : Nat} (h : x < 4294967296) : sg1 x < 4294967296 := Nat.xor_lt_two_pow (n := 32) (Nat.xor_lt_two_pow (n := 32) (tw_lt h) (tw_lt h)) (Nat.lt_of_le_of_lt (Nat.div_le_self _ _) h)
/-- The first words of a block, and those that follow. -/
def wnx (w : List Nat) (i : Nat) : Nat := (co w (i - 16) + co w (i - 7) + sg0 (co w (i - 15)) + sg1 (co w (i - 2))) % 4294967296
def wl (f : Nat → Nat) : Nat → List Nat
  | 0 => []
  | i + 1 => wl f i ++ [if i < 16 then f i else wnx (wl f i) i]
theorem wl_len (f : Nat → Nat) : ∀ n, (wl f n).length = n
  | 0 => rfl
  | n + 1 => by rw [wl, List.length_append, wl_len f n]; rfl
def W32 (l : List Nat) : Prop := ∀ x ∈ l, x < 4294967296
theorem W32.nil : W32 [] := fun _ h => by cases h
theorem W32.app {a b : List Nat} (ha : W32 a) (hb : W32 b) : W32 (a ++ b) := fun x hx => by
  rcases List.mem_append.1 hx with h | h
  · exact ha x h
  · exact hb x h
theorem W32.one {x : Nat} (h : x < 4294967296) : W32 [x] := fun y hy => by
  have : y = x := by simpa using hy
  omega
theorem W32.at {l : List Nat} (h : W32 l) (i : Nat) : co l i < 4294967296 := by
  by_cases hi : i < l.length
  · unfold co; rw [List.getElem?_eq_getElem hi]; exact h _ (List.getElem_mem hi)
  · rw [Pol.co_out l i (by omega)]; omega
theorem wl_w32 (f : Nat → Nat) (hf : ∀ i, f i < 4294967296) : ∀ n, W32 (wl f n)
  | 0 => W32.nil
  | n + 1 => by
    rw [wl]
    refine (wl_w32 f hf n).app (W32.one ?_)
    split
    · exact hf n
    · exact Nat.mod_lt _ (by decide)
def KK : List Nat := PR.map fun p => rtx 3 p 37 0 % 4294967296
def HH : List Nat := (PR.take 8).map fun p => rtx 2 p 37 0 % 4294967296
/-- A round. -/
def one (k w : Nat) (s : List Nat) : Nat := (co s 7 + (tw (co s 4) 6 ^^^ tw (co s 4) 11 ^^^ tw (co s 4) 25) + ((co s 4 &&& co s 5) ^^^ ((4294967295 - co s 4) &&& co s 6)) + k + w) % 4294967296
def two (s : List Nat) : Nat := ((tw (co s 0) 2 ^^^ tw (co s 0) 13 ^^^ tw (co s 0) 22) + ((co s 0 &&& co s 1) ^^^ (co s 0 &&& co s 2) ^^^ (co s 1 &&& co s 2))) % 4294967296
def rnd (k w : Nat) (s : List Nat) : List Nat := [(one k w s + two s) % 4294967296, co s 0, co s 1, co s 2, (co s 3 + one k w s) % 4294967296, co s 4, co s 5, co s 6]
def rds (K w h : List Nat) : Nat → List Nat
  | 0 => h
  | i + 1 => rnd (co K i) (co w i) (rds K w h i)
/-- The state behind a block; behind n of them. -/
def sumw (h s : List Nat) (i : Nat) : Nat := (co h i + co s i) % 4294967296
def blk (K : List Nat) (f : Nat → Nat) (h : List Nat) : List Nat := (List.range 8).map (sumw h (rds K (wl f 64) h 64))
/-- Four bytes as a word. -/
def word (t : List Nat) (j : Nat) : Nat := co t j * 16777216 + co t (j + 1) * 65536 + co t (j + 2) * 256 + co t (j + 3)
def hsh (H K t : List Nat) : Nat → List Nat
  | 0 => H
  | n + 1 => blk K (fun i => word t (64 * n + 4 * i)) (hsh H K t n)
/-- The bytes that are digested. -/
def padz (n : Nat) : Nat := (119 - n % 64) % 64
def len8 (n i : Nat) : Nat := 8 * n / 256 ^ (7 - i) % 256
def padded (l : List Nat) : List Nat := l ++ [128] ++ List.replicate (padz l.length) 0 ++ (List.range 8).map (len8 l.length)
theorem padded_len (l : List Nat) : (padded l).length % 64 = 0 ∧ (padded l).length = l.length + 9 + padz l.length := by
  unfold padded
  simp only [List.length_append, List.length_replicate, List.length_map, List.length_range, List.length_singleton]
  unfold padz
  omega
def digB (h : List Nat) (i : Nat) : Nat := co h (i / 4) / 2 ^ (24 - 8 * (i % 4)) % 256
/-- With any constants; with those that the document names. -/
def shaK (H K l : List Nat) : List Nat := (List.range 32).map (digB (hsh H K (padded l) ((padded l).length / 64)))
def sha (l : List Nat) : List Nat := shaK HH KK l
theorem shaK_len (H K l : List Nat) : (shaK H K l).length = 32 := by unfold shaK; simp
theorem shaK_sm (H K l : List Nat) : Sm (shaK H K l) := Pol.co_lt_of fun x hx => by
  obtain ⟨i, _, rfl⟩ := List.mem_map.1 hx
  exact Nat.mod_lt _ (by decide)
theorem sha_len (l : List Nat) : (sha l).length = 32 := shaK_len _ _ l
theorem sha_sm (l : List Nat) : Sm (sha l) := shaK_sm _ _ l
/-! ### Words stay words -/
theorem tab_w32 (f : Nat → Nat) (n : Nat) (h : ∀ i, f i < 4294967296) : W32 ((List.range n).map f) := fun x hx => by
  obtain ⟨i, _, rfl⟩ := List.mem_map.1 hx
  exact h i
theorem blk_len (K : List Nat) (f : Nat → Nat) (h : List Nat) : (blk K f h).length = 8 := by unfold blk; simp
theorem blk_w32 (K : List Nat) (f : Nat → Nat) (h : List Nat) : W32 (blk K f h) := tab_w32 _ _ (fun i => Nat.mod_lt _ (by decide))
theorem hsh_len (H K t : List Nat) (hH : H.length = 8) : ∀ n, (hsh H K t n).length = 8
  | 0 => hH
  | _ + 1 => blk_len _ _ _
theorem hsh_w32 (H K t : List Nat) (hH : W32 H) : ∀ n, W32 (hsh H K t n)
  | 0 => hH
  | _ + 1 => blk_w32 _ _ _
theorem rnd_len (k w : Nat) (s : List Nat) : (rnd k w s).length = 8 := rfl
theorem rnd_w32 {k w : Nat} {s : List Nat} (h : W32 s) : W32 (rnd k w s) := fun x hx => by
  unfold rnd at hx
  simp only [List.mem_cons, List.not_mem_nil, or_false] at hx
  rcases hx with rfl | rfl | rfl | rfl | rfl | rfl | rfl | rfl
  · exact Nat.mod_lt _ (by decide)
  · exact h.at 0
  · exact h.at 1
  · exact h.at 2
  · exact Nat.mod_lt _ (by decide)
  · exact h.at 4
  · exact h.at 5
  · exact h.at 6
theorem rds_len (K w h : List Nat) (hh : h.length = 8) : ∀ n, (rds K w h n).length = 8
  | 0 => hh
  | _ + 1 => rnd_len _ _ _
theorem rds_w32 (K w h : List Nat) (hh : W32 h) : ∀ n, W32 (rds K w h n)
  | 0 => hh
  | n + 1 => rnd_w32 (rds_w32 K w h hh n)
/-- Which one is ahead. -/
def lss : List Nat → List Nat → Bool
  | x :: a, y :: b => if x = y then lss a b else decide (x < y)
  | _, _ => false
theorem lss_at : ∀ (a b : List Nat) (i : Nat), a.length = b.length → i < a.length → (∀ j, j < i → co a j = co b j) → co a i ≠ co b i → lss a b = decide (co a i < co b i)
  | x :: a, y :: b, 0, _, _, _, hne => by
    have hxy : x ≠ y := hne
    rw [lss, if_neg hxy]
    rfl
  | x :: a, y :: b, i + 1, hl, hi, hs, hne => by
    have hxy : x = y := hs 0 (by omega)
    rw [lss, if_pos hxy, lss_at a b i (by simpa using hl) (by simpa using hi) (fun j hj => by have := hs (j + 1) (by omega); rwa [Pol.co_succ, Pol.co_succ] at this) (by rwa [Pol.co_succ, Pol.co_succ] at hne), Pol.co_succ, Pol.co_succ]
  | [], _, _, _, hi, _, _ => by simp at hi
  | _ :: _, [], _, hl, _, _, _ => by simp at hl
theorem lss_self : ∀ a : List Nat, lss a a = false
  | [] => rfl
  | x :: a => by rw [lss, if_pos rfl, lss_self a]
theorem lss_asym : ∀ a b : List Nat, lss a b = true → lss b a = false
  | x :: a, y :: b, h => by
    rw [lss] at h ⊢
    by_cases e : x = y
    · rw [if_pos e] at h
      rw [if_pos e.symm]
      exact lss_asym a b h
    · rw [if_neg e] at h
      rw [if_neg (fun e' => e e'.symm)]
      have := of_decide_eq_true h
      exact decide_eq_false (by omega)
  | [], _, h => by cases h
  | _ :: _, [], h => by cases h
theorem lss_total : ∀ a b : List Nat, a.length = b.length → lss a b = false → lss b a = false → a = b
  | [], [], _, _, _ => rfl
  | x :: a, y :: b, hl, h1, h2 => by
    rw [lss] at h1 h2
    by_cases e : x = y
    · rw [if_pos e] at h1
      rw [if_pos e.symm] at h2
      rw [e, lss_total a b (by simpa using hl) h1 h2]
    · rw [if_neg e] at h1
      rw [if_neg (fun e' => e e'.symm)] at h2
      have := of_decide_eq_false h1
      have := of_decide_eq_false h2
      omega
  | [], _ :: _, hl, _, _ => by simp at hl
  | _ :: _, [], hl, _, _ => by simp at hl
theorem lss_trans : ∀ a b c : List Nat, lss a b = true → lss b c = true → lss a c = true
  | x :: a, y :: b, z :: c, h1, h2 => by
    rw [lss] at h1 h2 ⊢
    by_cases e1 : x = y
    · rw [if_pos e1] at h1
      by_cases e2 : y = z
      · rw [if_pos e2] at h2
        rw [if_pos (e1.trans e2)]
        exact lss_trans a b c h1 h2
      · rw [if_neg e2] at h2
        rw [if_neg (by omega), e1]
        exact h2
    · rw [if_neg e1] at h1
      have h1' := of_decide_eq_true h1
      by_cases e2 : y = z
      · rw [if_neg (by omega)]
        exact decide_eq_true (by omega)
      · rw [if_neg e2] at h2
        have := of_decide_eq_true h2
        rw [if_neg (by omega)]
        exact decide_eq_true (by omega)
  | [], _, _, h, _ => by cases h
  | _ :: _, [], _, h, _ => by cases h
  | _ :: _, _ :: _, [], _, h => by cases h
/-- Texts, each with its length ahead. -/
def jn (ls : List (List Nat)) : List Nat := (ls.map vt).flatten
theorem jn_cons (t : List Nat) (ls : List (List Nat)) : jn (t :: ls) = vt t ++ jn ls := rfl
theorem jn_snoc (ls : List (List Nat)) (t : List Nat) : jn (ls ++ [t]) = jn ls ++ vt t := by unfold jn; simp
theorem vt_ne (t : List Nat) : vt t ≠ [] := fun e => by
  have h := vn_pos t.length
  have h0 := congrArg List.length e
  unfold vt at h0
  rw [List.length_append, List.length_nil] at h0
  omega
/-- There is one way to read them. -/
theorem jn_inj : ∀ (ls ks : List (List Nat)), (∀ t ∈ ls, t.length < 2 ^ 64) → (∀ t ∈ ks, t.length < 2 ^ 64) → jn ls = jn ks → ls = ks
  | [], [], _, _, _ => rfl
  | [], k :: ks, _, _, h => by
    exact absurd (List.append_eq_nil_iff.1 (show vt k ++ jn ks = [] from h.symm)).1 (vt_ne k)
  | l :: ls, [], _, _, h => by
    exact absurd (List.append_eq_nil_iff.1 (show vt l ++ jn ls = [] from h)).1 (vt_ne l)
  | l :: ls, k :: ks, hl, hk, h => by
    rw [jn_cons, jn_cons] at h
    have h1 := rdT_vt (2 ^ 64) l (jn ls) (hl l (by simp))
    have h2 := rdT_vt (2 ^ 64) k (jn ks) (hk k (by simp))
    have hl' := hl l (by simp)
    have hk' := hk k (by simp)
    rw [if_neg (by omega)] at h1 h2
    rw [h, h2] at h1
    injection h1 with e1 e2
    rw [e1, jn_inj ls ks (fun t ht => hl t (by simp [ht])) (fun t ht => hk t (by simp [ht])) e2.symm]
end Go.Proofs.YthbfodmpoheahaaDoor

/-
  Trees of digests as plain lists, over a letter for the digest: root, proof, what a proof lifts to, peaks; what is digested on the way; two lists of one root are one, or two things have one digest. Conditions: a digest has thirty-two bytes. No function is named here.
-/
namespace Go.Proofs.YthbfodmpoheahaaDoor
open Pol (co Sm)

/-- The greatest power of two below n. -/
def spl (n : Nat) : Nat := 2 ^ Nat.log2 (n - 1)
theorem spl_pos (n : Nat) : 0 < spl n := Nat.two_pow_pos _
theorem spl_lt {n : Nat} (h : 2 ≤ n) : spl n < n := by
  have := Nat.log2_self_le (n := n - 1) (by omega)
  unfold spl
  omega
theorem spl_two {n : Nat} (h : 2 ≤ n) : n ≤ 2 * spl n := by
  have := Nat.lt_log2_self (n := n - 1)
  unfold spl
  rw [Nat.pow_succ] at this
  omega
section
variable (D : List Nat → List Nat)
/-- A leaf's digest; two trees'. -/
def lf (t : List Nat) : List Nat := D (0 :: t)
def nd (a b : List Nat) : List Nat := D (1 :: (a ++ b))
/-- The root. -/
def mroot (l : List (List Nat)) : List Nat :=
  if _h : l.length < 2 then (match l with | [] => D [] | t :: _ => lf D t) else nd D (mroot (l.take (spl l.length))) (mroot (l.drop (spl l.length)))
termination_by l.length
decreasing_by
  · rw [List.length_take]; have := spl_lt (n := l.length) (by omega); omega
  · rw [List.length_drop]; have := spl_pos l.length; omega
theorem mroot_nil : mroot D [] = D [] := by rw [mroot]; rfl
theorem mroot_one (t : List Nat) : mroot D [t] = lf D t := by rw [mroot]; rfl
theorem mroot_more {l : List (List Nat)} (h : 2 ≤ l.length) : mroot D l = nd D (mroot D (l.take (spl l.length))) (mroot D (l.drop (spl l.length))) := by rw [mroot, dif_neg (by omega)]
/-- The proof of a place that is there. -/
def mprf (l : List (List Nat)) (i : Nat) : List (List Nat) :=
  if _h : l.length < 2 then [] else
    if i < spl l.length then mprf (l.take (spl l.length)) i ++ [mroot D (l.drop (spl l.length))] else mprf (l.drop (spl l.length)) (i - spl l.length) ++ [mroot D (l.take (spl l.length))]
termination_by l.length
decreasing_by
  · rw [List.length_take]; have := spl_lt (n := l.length) (by omega); omega
  · rw [List.length_drop]; have := spl_pos l.length; omega
/-- How long a proof must be. -/
def dep (n i : Nat) : Nat := if _h : n < 2 then 0 else if i < spl n then dep (spl n) i + 1 else dep (n - spl n) (i - spl n) + 1
termination_by n
decreasing_by
  · exact spl_lt (by omega)
  · have := spl_pos n; omega
/-- A leaf put together with a proof, from the back. -/
def mlift (d : List Nat) (n i : Nat) (p : List (List Nat)) : Option (List Nat) :=
  if _h : n < 2 then (if p = [] then some d else none) else
    match p.getLast? with
    | none => none
    | some x => if i < spl n then (mlift d (spl n) i p.dropLast).map (fun y => nd D y x) else (mlift d (n - spl n) (i - spl n) p.dropLast).map (fun y => nd D x y)
termination_by n
decreasing_by
  · exact spl_lt (by omega)
  · have := spl_pos n; omega
theorem mprf_len : ∀ (m : Nat) (l : List (List Nat)) (i : Nat), l.length ≤ m → (mprf D l i).length = dep l.length i
  | m, l, i, hm => by
    rw [mprf, dep]
    by_cases h : l.length < 2
    · rw [dif_pos h, dif_pos h]; rfl
    · rw [dif_neg h, dif_neg h]
      have h1 := spl_lt (n := l.length) (by omega)
      have h2 := spl_pos l.length
      cases m with
      | zero => omega
      | succ m =>
        by_cases hi : i < spl l.length
        · rw [if_pos hi, if_pos hi, List.length_append, mprf_len m _ _ (by rw [List.length_take]; omega), List.length_take, Nat.min_eq_left (by omega)]
          rfl
        · rw [if_neg hi, if_neg hi, List.length_append, mprf_len m _ _ (by rw [List.length_drop]; omega), List.length_drop]
          rfl
theorem mlift_len : ∀ (m : Nat) (d : List Nat) (n i : Nat) (p : List (List Nat)), n ≤ m → ((mlift D d n i p).isSome = true ↔ p.length = dep n i)
  | m, d, n, i, p, hm => by
    rw [mlift, dep]
    by_cases h : n < 2
    · rw [dif_pos h, dif_pos h]
      by_cases hp : p = []
      · subst hp; simp
      · rw [if_neg hp]
        have : p.length ≠ 0 := fun e => hp (List.eq_nil_of_length_eq_zero e)
        simp [this]
    · rw [dif_neg h, dif_neg h]
      have h1 := spl_lt (n := n) (by omega)
      have h2 := spl_pos n
      cases m with
      | zero => omega
      | succ m =>
        rcases List.eq_nil_or_concat p with rfl | ⟨q, x, rfl⟩
        · by_cases hi : i < spl n
          · rw [if_pos hi]; simp
          · rw [if_neg hi]; simp
        · by_cases hi : i < spl n
          · have ih := mlift_len m d (spl n) i q (by omega)
            simp only [List.concat_eq_append, List.getLast?_concat, List.dropLast_concat, if_pos hi, Option.isSome_map, List.length_append, List.length_singleton]
            rw [ih]
            omega
          · have ih := mlift_len m d (n - spl n) (i - spl n) q (by omega)
            simp only [List.concat_eq_append, List.getLast?_concat, List.dropLast_concat, if_neg hi, Option.isSome_map, List.length_append, List.length_singleton]
            rw [ih]
            omega
/-- What is proved is shown. -/
theorem mlift_prf : ∀ (m : Nat) (l : List (List Nat)) (i : Nat) (t : List Nat), l.length ≤ m → l[i]? = some t → mlift D (lf D t) l.length i (mprf D l i) = some (mroot D l)
  | m, l, i, t, hm, ht => by
    have hi := (List.getElem?_eq_some_iff.1 ht).1
    rw [mlift, mprf]
    by_cases h : l.length < 2
    · rw [dif_pos h, dif_pos h, if_pos rfl]
      match l, h, ht with
      | [s], _, ht =>
        have : i = 0 := by simpa using hi
        subst this
        injection ht with ht
        subst ht
        rw [mroot_one]
    · rw [dif_neg h, dif_neg h]
      have h1 := spl_lt (n := l.length) (by omega)
      have h2 := spl_pos l.length
      cases m with
      | zero => omega
      | succ m =>
        rw [mroot_more D (l := l) (by omega)]
        by_cases hk : i < spl l.length
        · have hl : (l.take (spl l.length)).length = spl l.length := by rw [List.length_take]; omega
          have ih := mlift_prf m (l.take (spl l.length)) i t (by omega) (by rw [List.getElem?_take, if_pos hk]; exact ht)
          rw [hl] at ih
          simp only [if_pos hk, List.getLast?_concat, List.dropLast_concat, ih, Option.map_some]
        · have hl : (l.drop (spl l.length)).length = l.length - spl l.length := by rw [List.length_drop]
          have ih := mlift_prf m (l.drop (spl l.length)) (i - spl l.length) t (by omega) (by rw [List.getElem?_drop, show spl l.length + (i - spl l.length) = i from by omega]; exact ht)
          rw [hl] at ih
          simp only [if_neg hk, List.getLast?_concat, List.dropLast_concat, ih, Option.map_some]
end
end Go.Proofs.YthbfodmpoheahaaDoor

/-
  Two lists of one root are one, or two things have one digest; so with what a proof shows; a place's proof does not hang on what stands there. Conditions: a digest has thirty-two bytes. No function is named here.
-/
namespace Go.Proofs.YthbfodmpoheahaaDoor
open Pol (co Sm)

section
variable (D : List Nat → List Nat)
/-- All that is digested for a root; the last of it. -/
def minn (l : List (List Nat)) : List (List Nat) :=
  if _h : l.length < 2 then (match l with | [] => [[]] | t :: _ => [0 :: t]) else minn (l.take (spl l.length)) ++ minn (l.drop (spl l.length)) ++ [1 :: (mroot D (l.take (spl l.length)) ++ mroot D (l.drop (spl l.length)))]
termination_by l.length
decreasing_by
  · rw [List.length_take]; have := spl_lt (n := l.length) (by omega); omega
  · rw [List.length_drop]; have := spl_pos l.length; omega
theorem minn_nil : minn D [] = [[]] := by rw [minn]; rfl
theorem minn_one (t : List Nat) : minn D [t] = [0 :: t] := by rw [minn]; rfl
theorem minn_more {l : List (List Nat)} (h : 2 ≤ l.length) : minn D l = minn D (l.take (spl l.length)) ++ minn D (l.drop (spl l.length)) ++ [1 :: (mroot D (l.take (spl l.length)) ++ mroot D (l.drop (spl l.length)))] := by rw [minn, dif_neg (by omega)]
/-- Unlike things with one digest, one of each list. -/
def Clash (a b : List (List Nat)) : Prop := ∃ x ∈ a, ∃ y ∈ b, D x = D y ∧ x ≠ y
variable {D}
theorem Clash.mono {a b a' b' : List (List Nat)} (h : Clash D a b) (ha : ∀ x ∈ a, x ∈ a') (hb : ∀ x ∈ b, x ∈ b') : Clash D a' b' := by
  obtain ⟨x, hx, y, hy, e, ne⟩ := h
  exact ⟨x, ha x hx, y, hb y hy, e, ne⟩
theorem mroot_len (hD : ∀ x, (D x).length = 32) (l : List (List Nat)) : (mroot D l).length = 32 := by
  rw [mroot]
  by_cases h : l.length < 2
  · rw [dif_pos h]
    match l, h with
    | [], _ => exact hD _
    | [t], _ => exact hD _
  · rw [dif_neg h]
    exact hD _
theorem split32 {a b c d : List Nat} (h : a ++ b = c ++ d) (ha : a.length = 32) (hc : c.length = 32) : a = c ∧ b = d := List.append_inj h (by rw [ha, hc])
/-- Two lists of one root. -/
theorem bind_roots (hD : ∀ x, (D x).length = 32) : ∀ (m : Nat) (l k : List (List Nat)), l.length ≤ m → mroot D l = mroot D k → l ≠ k → Clash D (minn D l) (minn D k)
  | m, l, k, hm, hr, hne => by
    match l, hm, hr, hne with
    | [], _, hr, hne =>
      rw [mroot_nil] at hr
      rw [minn_nil]
      match k, hr, hne with
      | [], _, hne => exact absurd rfl hne
      | [t], hr, _ =>
        rw [mroot_one] at hr
        rw [minn_one]
        exact ⟨[], by simp, 0 :: t, by simp, hr, by simp⟩
      | a :: b :: r, hr, _ =>
        rw [mroot_more D (l := a :: b :: r) (by simp)] at hr
        rw [minn_more D (l := a :: b :: r) (by simp)]
        exact ⟨[], by simp, _, List.mem_append_right _ (List.mem_singleton.2 rfl), hr, by simp⟩
    | [s], _, hr, hne =>
      rw [mroot_one] at hr
      rw [minn_one]
      match k, hr, hne with
      | [], hr, _ =>
        rw [mroot_nil] at hr
        rw [minn_nil]
        exact ⟨0 :: s, by simp, [], by simp, hr, by simp⟩
      | [t], hr, hne =>
        rw [mroot_one] at hr
        rw [minn_one]
        exact ⟨0 :: s, by simp, 0 :: t, by simp, hr, fun e => hne (by injection e with _ e; rw [e])⟩
      | a :: b :: r, hr, _ =>
        rw [mroot_more D (l := a :: b :: r) (by simp)] at hr
        rw [minn_more D (l := a :: b :: r) (by simp)]
        exact ⟨0 :: s, by simp, _, List.mem_append_right _ (List.mem_singleton.2 rfl), hr, by simp⟩
    | a :: b :: r, hm, hr, hne =>
      have h2 : 2 ≤ (a :: b :: r).length := by simp
      have h1 := spl_lt h2
      have h0 := spl_pos (a :: b :: r).length
      rw [mroot_more D h2] at hr
      rw [minn_more D h2]
      generalize a :: b :: r = l at *
      match k, hr, hne with
      | [], hr, _ =>
        rw [mroot_nil] at hr
        rw [minn_nil]
        exact ⟨_, List.mem_append_right _ (List.mem_singleton.2 rfl), [], by simp, hr, by simp⟩
      | [t], hr, _ =>
        rw [mroot_one] at hr
        rw [minn_one]
        exact ⟨_, List.mem_append_right _ (List.mem_singleton.2 rfl), 0 :: t, by simp, hr, by simp⟩
      | c :: d :: r', hr, hne =>
        have h2' : 2 ≤ (c :: d :: r').length := by simp
        rw [mroot_more D h2'] at hr
        rw [minn_more D h2']
        generalize c :: d :: r' = k at *
        by_cases e : (1 :: (mroot D (l.take (spl l.length)) ++ mroot D (l.drop (spl l.length)))) = 1 :: (mroot D (k.take (spl k.length)) ++ mroot D (k.drop (spl k.length)))
        · injection e with _ e
          obtain ⟨ea, eb⟩ := split32 e (mroot_len hD _) (mroot_len hD _)
          cases m with
          | zero => omega
          | succ m =>
            by_cases ht : l.take (spl l.length) = k.take (spl k.length)
            · have hd : l.drop (spl l.length) ≠ k.drop (spl k.length) := fun hd => hne (by rw [← List.take_append_drop (spl l.length) l, ht, hd, List.take_append_drop])
              exact (bind_roots hD m _ _ (by rw [List.length_drop]; omega) eb hd).mono (fun x hx => by simp [hx]) (fun x hx => by simp [hx])
            · exact (bind_roots hD m _ _ (by rw [List.length_take]; omega) ea ht).mono (fun x hx => by simp [hx]) (fun x hx => by simp [hx])
        · exact ⟨_, List.mem_append_right _ (List.mem_singleton.2 rfl), _, List.mem_append_right _ (List.mem_singleton.2 rfl), hr, e⟩
variable (D)
/-- All that is digested where a text is put together with a proof; what comes of it. -/
def mpath (t : List Nat) (n i : Nat) (p : List (List Nat)) : List Nat × List (List Nat) :=
  if _h : n < 2 then (lf D t, [0 :: t]) else
    match p.getLast? with
    | none => (lf D t, [0 :: t])
    | some x =>
      if i < spl n then let r := mpath t (spl n) i p.dropLast; (nd D r.1 x, r.2 ++ [1 :: (r.1 ++ x)])
      else let r := mpath t (n - spl n) (i - spl n) p.dropLast; (nd D x r.1, r.2 ++ [1 :: (x ++ r.1)])
termination_by n
decreasing_by
  · exact spl_lt (by omega)
  · have := spl_pos n; omega
variable {D}
theorem mpath_lift : ∀ (m : Nat) (t : List Nat) (n i : Nat) (p : List (List Nat)) (d : List Nat), n ≤ m → mlift D (lf D t) n i p = some d → (mpath D t n i p).1 = d
  | m, t, n, i, p, d, hm, h => by
    rw [mlift] at h
    rw [mpath]
    by_cases h2 : n < 2
    · rw [dif_pos h2] at h
      rw [dif_pos h2]
      by_cases hp : p = []
      · rw [if_pos hp] at h
        injection h with h
      · rw [if_neg hp] at h; cases h
    · rw [dif_neg h2] at h
      rw [dif_neg h2]
      have h1 := spl_lt (n := n) (by omega)
      have h0 := spl_pos n
      cases m with
      | zero => omega
      | succ m =>
        rcases List.eq_nil_or_concat p with rfl | ⟨q, x, rfl⟩
        · simp at h
        · simp only [List.concat_eq_append, List.getLast?_concat, List.dropLast_concat] at h ⊢
          by_cases hi : i < spl n
          · rw [if_pos hi] at h
            rw [if_pos hi]
            obtain ⟨y, hy, e⟩ := Option.map_eq_some_iff.1 h
            have ih := mpath_lift m t (spl n) i q y (by omega) hy
            simp only [ih]
            exact e
          · rw [if_neg hi] at h
            rw [if_neg hi]
            obtain ⟨y, hy, e⟩ := Option.map_eq_some_iff.1 h
            have ih := mpath_lift m t (n - spl n) (i - spl n) q y (by omega) hy
            simp only [ih]
            exact e
theorem mlift_dlen (hD : ∀ x, (D x).length = 32) {t : List Nat} {n i : Nat} {p : List (List Nat)} {d : List Nat} (h : mlift D (lf D t) n i p = some d) : d.length = 32 := by
  rw [mlift] at h
  by_cases h2 : n < 2
  · rw [dif_pos h2] at h
    by_cases hp : p = []
    · rw [if_pos hp] at h; injection h with h; rw [← h]; exact hD _
    · rw [if_neg hp] at h; cases h
  · rw [dif_neg h2] at h
    rcases List.eq_nil_or_concat p with rfl | ⟨q, x, rfl⟩
    · simp at h
    · simp only [List.concat_eq_append, List.getLast?_concat, List.dropLast_concat] at h
      by_cases hi : i < spl n
      · rw [if_pos hi] at h
        obtain ⟨y, _, e⟩ := Option.map_eq_some_iff.1 h
        rw [← e]; exact hD _
      · rw [if_neg hi] at h
        obtain ⟨y, _, e⟩ := Option.map_eq_some_iff.1 h
        rw [← e]; exact hD _
/-- What is shown stands there. -/
theorem bind_path (hD : ∀ x, (D x).length = 32) : ∀ (m : Nat) (l : List (List Nat)) (i : Nat) (s t : List Nat) (p : List (List Nat)), l.length ≤ m → l[i]? = some s → (∀ x ∈ p, x.length = 32) → mlift D (lf D t) l.length i p = some (mroot D l) → s ≠ t → Clash D (mpath D t l.length i p).2 (minn D l)
  | m, l, i, s, t, p, hm, hs, hp, h, hne => by
    have hil := (List.getElem?_eq_some_iff.1 hs).1
    by_cases h2 : l.length < 2
    · match l, h2, hs, h, hil with
      | [u], _, hs, h, hil =>
        have hi : i = 0 := by simpa using hil
        subst hi
        injection hs with hs
        subst hs
        rw [mlift, dif_pos (by simp), mroot_one] at h
        by_cases hq : p = []
        · subst hq
          rw [if_pos rfl] at h
          injection h with h
          rw [mpath, dif_pos (by simp), minn_one]
          exact ⟨0 :: t, by simp, 0 :: u, by simp, h, fun e => hne (by injection e with _ e; exact e.symm)⟩
        · rw [if_neg hq] at h; cases h
    · have h1 := spl_lt (n := l.length) (by omega)
      have h0 := spl_pos l.length
      rw [mlift, dif_neg h2, mroot_more D (l := l) (by omega)] at h
      rw [mpath, dif_neg h2, minn_more D (l := l) (by omega)]
      cases m with
      | zero => omega
      | succ m =>
        rcases List.eq_nil_or_concat p with rfl | ⟨q, x, rfl⟩
        · simp at h
        · have hx : x.length = 32 := hp x (by simp)
          have hq : ∀ y ∈ q, y.length = 32 := fun y hy => hp y (by simp [hy])
          simp only [List.concat_eq_append, List.getLast?_concat, List.dropLast_concat] at h ⊢
          by_cases hi : i < spl l.length
          · rw [if_pos hi] at h
            rw [if_pos hi]
            obtain ⟨y, hy, e⟩ := Option.map_eq_some_iff.1 h
            have hl : (l.take (spl l.length)).length = spl l.length := by rw [List.length_take]; omega
            have hpl := mpath_lift l.length t (spl l.length) i q y (by omega) hy
            simp only [hpl]
            by_cases e2 : (1 :: (y ++ x)) = 1 :: (mroot D (l.take (spl l.length)) ++ mroot D (l.drop (spl l.length)))
            · injection e2 with _ e2
              obtain ⟨ea, _⟩ := split32 e2 (mlift_dlen hD hy) (mroot_len hD _)
              have ih := bind_path hD m (l.take (spl l.length)) i s t q (by omega) (by rw [List.getElem?_take, if_pos hi]; exact hs) hq (by rw [hl, hy, ea]) hne
              rw [hl] at ih
              exact ih.mono (fun z hz => by simp [hz]) (fun z hz => by simp [hz])
            · exact ⟨_, List.mem_append_right _ (List.mem_singleton.2 rfl), _, List.mem_append_right _ (List.mem_singleton.2 rfl), e, e2⟩
          · rw [if_neg hi] at h
            rw [if_neg hi]
            obtain ⟨y, hy, e⟩ := Option.map_eq_some_iff.1 h
            have hl : (l.drop (spl l.length)).length = l.length - spl l.length := by rw [List.length_drop]
            have hpl := mpath_lift l.length t (l.length - spl l.length) (i - spl l.length) q y (by omega) hy
            simp only [hpl]
            by_cases e2 : (1 :: (x ++ y)) = 1 :: (mroot D (l.take (spl l.length)) ++ mroot D (l.drop (spl l.length)))
            · injection e2 with _ e2
              obtain ⟨_, eb⟩ := split32 e2 hx (mroot_len hD _)
              have ih := bind_path hD m (l.drop (spl l.length)) (i - spl l.length) s t q (by rw [hl]; omega) (by rw [List.getElem?_drop, show spl l.length + (i - spl l.length) = i from by omega]; exact hs) hq (by rw [hl, hy, eb]) hne
              rw [hl] at ih
              exact ih.mono (fun z hz => by simp [hz]) (fun z hz => by simp [hz])
            · exact ⟨_, List.mem_append_right _ (List.mem_singleton.2 rfl), _, List.mem_append_right _ (List.mem_singleton.2 rfl), e, e2⟩
/-- A place's proof does not hang on what stands there. -/
theorem mprf_set : ∀ (m : Nat) (l : List (List Nat)) (i : Nat) (t : List Nat), l.length ≤ m → i < l.length → mprf D (l.set i t) i = mprf D l i
  | m, l, i, t, hm, hil => by
    rw [mprf, mprf.eq_def D l i, List.length_set]
    by_cases h2 : l.length < 2
    · rw [dif_pos h2, dif_pos h2]
    · have h1 := spl_lt (n := l.length) (by omega)
      have h0 := spl_pos l.length
      rw [dif_neg h2, dif_neg h2]
      cases m with
      | zero => omega
      | succ m =>
        by_cases hi : i < spl l.length
        · rw [if_pos hi, if_pos hi, List.take_set, mprf_set m _ i t (by rw [List.length_take]; omega) (by rw [List.length_take]; omega), List.drop_set, if_pos hi]
        · rw [if_neg hi, if_neg hi, List.drop_set, if_neg hi, mprf_set m _ (i - spl l.length) t (by rw [List.length_drop]; omega) (by rw [List.length_drop]; omega), List.take_set_of_le (by omega)]
end
end Go.Proofs.YthbfodmpoheahaaDoor

/-
  Bytes in a block of a call's own, that are changed one by one; what stays while other blocks are written. Conditions: none.
-/
namespace Go.Proofs.YthbfodmpoheahaaDoor
open Go.RowKit
open Pol (co Sm trim)

/-- The first n cells of block g are the bytes F, and may be written. -/
def Cells (w : World) (g n : Nat) (F : Nat → Nat) : Prop := ∀ i, i < n → w.cell? ⟨g, i, none⟩ = some (.int .u8 ((F i : Nat) : Int)) ∧ w.frozen? ⟨g, i, none⟩ = false
theorem Blk.cells {w : World} {g n : Nat} {F : Nat → Nat} (h : Blk w g n F) : Cells w g n F := fun i hi => ⟨h.cell i hi, h.frozen i⟩
theorem Cells.drewN {w : World} {g n : Nat} {F : Nat → Nat} (h : Cells w g n F) (k : Nat) : Cells (w.drewN k) g n F := h
theorem Cells.congr {w : World} {g n : Nat} {F F' : Nat → Nat} (h : Cells w g n F) (hf : ∀ i, i < n → F i = F' i) : Cells w g n F' := fun i hi => ⟨by rw [(h i hi).1, hf i hi], (h i hi).2⟩
theorem Cells.store {w : World} {g n : Nat} {F : Nat → Nat} (h : Cells w g n F) (k v : Nat) : Cells (w.setCell ⟨g, k, none⟩ (.int .u8 (v : Int))) g n (upd F k v) := fun i hi => by
  refine ⟨?_, by rw [World.frozen?_setCell]; exact (h i hi).2⟩
  unfold upd
  by_cases e : i = k
  · subst e
    rw [if_pos rfl]
    exact World.cell?_setCell_same' _ _ _ (by rw [(h i hi).1]; rfl)
  · rw [if_neg e, World.cell?_setCell_other _ _ _ _ (fun h => e (by cases h; rfl))]
    exact (h i hi).1
theorem Cells.keep {w w' : World} {g n : Nat} {F : Nat → Nat} {row : Option Nat} (h : Cells w g n F) (hg : w.grownBy w' row) (hne : some g ≠ row) : Cells w' g n F := fun i hi =>
  ⟨hg.cell (h i hi).1 hne, (World.frozen?_of_block (a := ⟨g, i, none⟩) (hg.block g (block_lt_of_cell (h i hi).1) hne)).trans (h i hi).2⟩
theorem Cells.ext {w w' : World} {g n : Nat} {F : Nat → Nat} (h : Cells w g n F) (hx : Ext w w') : Cells w' g n F := fun i hi =>
  ⟨(hx.below.cell (p := ⟨g, i, none⟩) (block_lt_of_cell (h i hi).1)).trans (h i hi).1, (hx.below.frozen (p := ⟨g, i, none⟩) (block_lt_of_cell (h i hi).1)).trans (h i hi).2⟩
theorem Cells.reads {w : World} {g n : Nat} {F : Nat → Nat} (h : Cells w g n F) (hs : ∀ i, i < n → F i < 256) : Rd w (some ⟨g, 0, none⟩) (tab n F) :=
  ⟨tab_sm n F hs, fun i hi => ⟨g, 0, rfl, by
    rw [tab_len] at hi
    rw [Nat.zero_add, (h i hi).1, co_tab, if_pos hi]⟩⟩
theorem Rd.keep {w w' : World} {A : Option Addr} {l : List Nat} {row : Option Nat} (h : Rd w A l) (hg : w.grownBy w' row) (hne : ∀ b o, A = some ⟨b, o, none⟩ → 0 < l.length → some b ≠ row) : Rd w' A l :=
  ⟨h.1, fun i hi => by
    obtain ⟨b, o, e, hc⟩ := h.2 i hi
    exact ⟨b, o, e, hg.cell hc (hne b o e (by omega))⟩⟩
theorem grown_set (w : World) (g o : Nat) (v : Value) : w.grownBy (w.setCell ⟨g, o, none⟩ v) (some g) :=
  ⟨rfl, rfl, rfl, by simp [World.setCell], fun k _ hk => Below.heap_setCell _ _ _ k (fun e => hk (by rw [e]))⟩
theorem grown_drewN (w : World) (n : Nat) (row : Option Nat) : w.grownBy (w.drewN n) row := ⟨rfl, rfl, rfl, Nat.le_refl _, fun _ _ _ => rfl⟩
theorem Ext.grown {w w' : World} (h : Ext w w') (row : Option Nat) : w.grownBy w' row := ⟨h.below.os, h.below.tape, h.below.output, h.below.size, fun k hk _ => h.below.block k hk⟩

/-- s[l:] of bytes, where the capacity goes on. -/
theorem run_from_u8 (g o len cap l : Nat) (h : l ≤ len) (hc : l < cap) (W : World) :
    (Instr.slice 35 (.slice (some ⟨g, o, none⟩) len cap) (some (.int .i64 (l : Int))) none none).run Tryd.prog W = .ok (.slice (some ⟨g, o + l, none⟩) (len - l) (cap - l)) W := by
  obtain ⟨i0, hi, hz0, hz1, hz2⟩ := info_parts u8_info
  have he : Tryd.prog.elem 35 = 5 := by kernel_rfl
  rw [run_slice_l W 35 _ len cap (by rw [he]; exact Tryd.underlying35) .i64 (l : Int) (by omega) (by omega), he]
  simp [sizeOf, typeInfo, hi, hz1, Result.andThen, sliced, addr_add]
  omega

/-- A slice of the call's own, as cells that may be written. -/
theorem Mine.cells {w : World} {base : Nat} {v : Value} {l : List Nat} (hm : Mine w base v l) : ∃ A c g, v = .slice A l.length c ∧ l.length ≤ c ∧ (0 < l.length → A = some ⟨g, 0, none⟩ ∧ base ≤ g) ∧ Cells w g l.length (co l) := by
  rcases hm.2 with ⟨rfl, hn⟩ | ⟨g, cap, cur, rfl, hb, hg, hnc, _, _, htake⟩
  · have : l = [] := List.eq_nil_of_length_eq_zero hn
    subst this
    exact ⟨none, 0, 0, rfl, Nat.le_refl _, fun h => absurd h (by simp), fun i hi => absurd hi (by simp)⟩
  · refine ⟨_, cap, g, rfl, hnc, fun _ => ⟨rfl, hb⟩, fun i hi => ⟨?_, frozen_of_row w g i cur _ hg⟩⟩
    rw [cell_of_row w g i cur _ _ hg, ← bv_at l i hi, ← htake, List.getElem?_take, if_pos (by omega)]
    simp
end Go.Proofs.YthbfodmpoheahaaDoor

/-
  Numbers of 32 bits as the cells of an array's block, as a function of the place. Conditions: none; no function is named here.
-/
namespace Go.Proofs.YthbfodmpoheahaaDoor
open Go.RowKit
open Pol (co Sm)

/-- Numbers of 32 bits as cells, by a function of the place. -/
def dt (n : Nat) (f : Nat → Nat) : Array Value := Array.ofFn (n := n) fun i => Value.int .u32 ((f i.val : Nat) : Int)
theorem dt_size (n : Nat) (f : Nat → Nat) : (dt n f).size = n := by simp [dt]
theorem dt_at (n : Nat) (f : Nat → Nat) (i : Nat) (h : i < n) : (dt n f)[i]? = some (.int .u32 ((f i : Nat) : Int)) := by simp [dt, h]
theorem dt_set (n : Nat) (f : Nat → Nat) (k v : Nat) : (dt n f).setIfInBounds k (.int .u32 (v : Int)) = dt n (upd f k v) := by
  apply Array.ext (by simp [dt])
  intro i h1 h2
  have hi : i < (dt n f).size := by simpa using h1
  rw [Array.getElem_setIfInBounds hi]
  simp only [dt, Array.getElem_ofFn, upd]
  by_cases e : k = i
  · subst e; simp
  · rw [if_neg e, if_neg (fun h => e h.symm)]
theorem dt_congr (n : Nat) {f g : Nat → Nat} (h : ∀ i, i < n → f i = g i) : dt n f = dt n g := by
  apply Array.ext (by simp [dt])
  intro i h1 h2
  have hi : i < n := by simpa [dt] using h1
  simp only [dt, Array.getElem_ofFn, h i hi]
theorem dt_one (n : Nat) (f : Nat → Nat) : (dt n f).all (·.oneCell') = true := by
  rw [Array.all_eq_true]; intro i h; simp [dt, Value.oneCell']
theorem dt_zero (n : Nat) : dt n (fun _ => 0) = Array.replicate n (.int .u32 0) := by
  apply Array.ext (by simp [dt])
  intro i h1 h2
  simp [dt]
/-- The block of an array of n such numbers; its type. -/
def WBlk (T : TypeId) (n : Nat) (w : World) (g : Nat) (f : Nat → Nat) : Prop := w.heap[g]? = some (.cells (dt n f) T (0, 0))
section
variable {T : TypeId} {n : Nat}
theorem WBlk.cell {w : World} {g : Nat} {f : Nat → Nat} (h : WBlk T n w g f) (i : Nat) (hi : i < n) : w.cell? ⟨g, i, none⟩ = some (.int .u32 ((f i : Nat) : Int)) := by rw [cell_of_row w g i _ _ _ h, dt_at n f i hi]
theorem WBlk.frozen {w : World} {g : Nat} {f : Nat → Nat} (h : WBlk T n w g f) (i : Nat) : w.frozen? ⟨g, i, none⟩ = false := frozen_of_row w g i _ _ h
theorem WBlk.store {w : World} {g : Nat} {f : Nat → Nat} (h : WBlk T n w g f) (k v : Nat) : WBlk T n (w.setCell ⟨g, k, none⟩ (.int .u32 (v : Int))) g (upd f k v) := by
  unfold WBlk
  rw [heap_setCell_same w g k _ _ _ h, dt_set]
theorem WBlk.congr {w : World} {g : Nat} {f f' : Nat → Nat} (h : WBlk T n w g f) (hf : ∀ i, i < n → f i = f' i) : WBlk T n w g f' := by
  unfold WBlk at *
  rw [h, dt_congr n hf]
theorem WBlk.lt {w : World} {g : Nat} {f : Nat → Nat} (h : WBlk T n w g f) : g < w.heap.size := by
  rcases Nat.lt_or_ge g w.heap.size with hlt | hge
  · exact hlt
  · unfold WBlk at h; rw [Array.getElem?_eq_none hge] at h; cases h
theorem WBlk.ext {w w' : World} {g : Nat} {f : Nat → Nat} (h : WBlk T n w g f) (hx : Ext w w') : WBlk T n w' g f := (hx.below.block g h.lt).trans h
theorem WBlk.drewN {w : World} {g : Nat} {f : Nat → Nat} (h : WBlk T n w g f) (q : Nat) : WBlk T n (w.drewN q) g f := h
theorem WBlk.keep {w w' : World} {g : Nat} {f : Nat → Nat} {row : Option Nat} (h : WBlk T n w g f) (hg : w.grownBy w' row) (hne : some g ≠ row) : WBlk T n w' g f := (hg.block g h.lt hne).trans h
theorem WBlk.new (w : World) (f : Nat → Nat) : WBlk T n (w.alloc (.cells (dt n f) T)) w.heap.size f := heap_alloc_new w _
theorem WBlk.setRow {w : World} {g : Nat} {f f' : Nat → Nat} (h : WBlk T n w g f) : WBlk T n (w.setRow g (dt n f')) g f' := setRow_heap w g _ _ _ _ h
end
end Go.Proofs.YthbfodmpoheahaaDoor

/-
  Where layer 10's constants lie. Conditions: none.
-/
namespace Go.Proofs.YthbfodmpoheahaaDoor
open Go.RowKit
open Pol (co Sm)

/-- The tables of layer 10, as start-up lays them. -/
def GL (w : World) : Prop := (∃ T, w.heap[0]? = some (.cells (dt 8 (co HH)) T (0, 0))) ∧ ∃ T, w.heap[3]? = some (.cells (dt 64 (co KK)) T (0, 0))
theorem lt_of_some {w : World} {g : Nat} {o : Obj} (h : w.heap[g]? = some o) : g < w.heap.size := (Array.getElem?_eq_some_iff.1 h).1
theorem GL.ext {w w' : World} (h : GL w) (hx : Ext w w') : GL w' := by
  obtain ⟨⟨T, h1⟩, ⟨U, h2⟩⟩ := h
  exact ⟨⟨T, (hx.below.block _ (lt_of_some h1)).trans h1⟩, ⟨U, (hx.below.block _ (lt_of_some h2)).trans h2⟩⟩
theorem GL.drewN {w : World} (h : GL w) (q : Nat) : GL (w.drewN q) := h
end Go.Proofs.YthbfodmpoheahaaDoor

/-
  SHA-256's constants in digits. Conditions: none; no function is named here.
-/
namespace Go.Proofs.YthbfodmpoheahaaDoor

theorem HH_is : HH = [1779033703, 3144134277, 1013904242, 2773480762, 1359893119, 2600822924, 528734635, 1541459225] := by decide +kernel
theorem KK_is : KK = [1116352408, 1899447441, 3049323471, 3921009573, 961987163, 1508970993, 2453635748, 2870763221, 3624381080, 310598401, 607225278, 1426881987, 1925078388, 2162078206, 2614888103, 3248222580, 3835390401, 4022224774, 264347078, 604807628, 770255983, 1249150122, 1555081692, 1996064986, 2554220882, 2821834349, 2952996808, 3210313671, 3336571891, 3584528711, 113926993, 338241895, 666307205, 773529912, 1294757372, 1396182291, 1695183700, 1986661051, 2177026350, 2456956037, 2730485921, 2820302411, 3259730800, 3345764771, 3516065817, 3600352804, 4094571909, 275423344, 430227734, 506948616, 659060556, 883997877, 958139571, 1322822218, 1537002063, 1747873779, 1955562222, 2024104815, 2227730452, 2361852424, 2428436474, 2756734187, 3204031479, 3329325298] := by decide +kernel
theorem HH_w32 : W32 HH := by rw [HH_is]; intro x hx; revert x; decide +kernel
theorem KK_w32 : W32 KK := by rw [KK_is]; intro x hx; revert x; decide +kernel
end Go.Proofs.YthbfodmpoheahaaDoor

/-
  The digest of "abc" in digits, step by step. Conditions: none; no function is named here.
-/
namespace Go.Proofs.YthbfodmpoheahaaDoor
open Pol (co Sm)

namespace Abc
def H : List Nat := [1779033703, 3144134277, 1013904242, 2773480762, 1359893119, 2600822924, 528734635, 1541459225]
def K : List Nat := [1116352408, 1899447441, 3049323471, 3921009573, 961987163, 1508970993, 2453635748, 2870763221, 3624381080, 310598401, 607225278, 1426881987, 1925078388, 2162078206, 2614888103, 3248222580, 3835390401, 4022224774, 264347078, 604807628, 770255983, 1249150122, 1555081692, 1996064986, 2554220882, 2821834349, 2952996808, 3210313671, 3336571891, 3584528711, 113926993, 338241895, 666307205, 773529912, 1294757372, 1396182291, 1695183700, 1986661051, 2177026350, 2456956037, 2730485921, 2820302411, 3259730800, 3345764771, 3516065817, 3600352804, 4094571909, 275423344, 430227734, 506948616, 659060556, 883997877, 958139571, 1322822218, 1537002063, 1747873779, 1955562222, 2024104815, 2227730452, 2361852424, 2428436474, 2756734187, 3204031479, 3329325298]
def t : List Nat := [97, 98, 99, 128, 0, 0, 0, 0, 0, 0, 0, 0, 0, 0, 0, 0, 0, 0, 0, 0, 0, 0, 0, 0, 0, 0, 0, 0, 0, 0, 0, 0, 0, 0, 0, 0, 0, 0, 0, 0, 0, 0, 0, 0, 0, 0, 0, 0, 0, 0, 0, 0, 0, 0, 0, 0, 0, 0, 0, 0, 0, 0, 0, 24]
def f : Nat → Nat := fun i => word t (64 * 0 + 4 * i)
theorem wstep {i v : Nat} {l : List Nat} (h : wl f i = l) (hv : (if i < 16 then f i else wnx l i) = v) : wl f (i + 1) = l ++ [v] := by
  rw [wl, h, hv]
theorem rstep {i : Nat} {w l m : List Nat} {k x : Nat} (h : rds K w H i = l) (hk : co K i = k) (hx : co w i = x) (hm : rnd k x l = m) : rds K w H (i + 1) = m := by
  rw [rds, h, hk, hx, hm]
theorem w0 : wl f 0 = [] := rfl
theorem w1 : wl f 1 = [1633837952] := wstep w0 (by decide +kernel)
theorem w2 : wl f 2 = [1633837952, 0] := wstep w1 (by decide +kernel)
theorem w3 : wl f 3 = [1633837952, 0, 0] := wstep w2 (by decide +kernel)
theorem w4 : wl f 4 = [1633837952, 0, 0, 0] := wstep w3 (by decide +kernel)
theorem w5 : wl f 5 = [1633837952, 0, 0, 0, 0] := wstep w4 (by decide +kernel)
theorem w6 : wl f 6 = [1633837952, 0, 0, 0, 0, 0] := wstep w5 (by decide +kernel)
theorem w7 : wl f 7 = [1633837952, 0, 0, 0, 0, 0, 0] := wstep w6 (by decide +kernel)
theorem w8 : wl f 8 = [1633837952, 0, 0, 0, 0, 0, 0, 0] := wstep w7 (by decide +kernel)
theorem w9 : wl f 9 = [1633837952, 0, 0, 0, 0, 0, 0, 0, 0] := wstep w8 (by decide +kernel)
theorem w10 : wl f 10 = [1633837952, 0, 0, 0, 0, 0, 0, 0, 0, 0] := wstep w9 (by decide +kernel)
theorem w11 : wl f 11 = [1633837952, 0, 0, 0, 0, 0, 0, 0, 0, 0, 0] := wstep w10 (by decide +kernel)
theorem w12 : wl f 12 = [1633837952, 0, 0, 0, 0, 0, 0, 0, 0, 0, 0, 0] := wstep w11 (by decide +kernel)
theorem w13 : wl f 13 = [1633837952, 0, 0, 0, 0, 0, 0, 0, 0, 0, 0, 0, 0] := wstep w12 (by decide +kernel)
theorem w14 : wl f 14 = [1633837952, 0, 0, 0, 0, 0, 0, 0, 0, 0, 0, 0, 0, 0] := wstep w13 (by decide +kernel)
theorem w15 : wl f 15 = [1633837952, 0, 0, 0, 0, 0, 0, 0, 0, 0, 0, 0, 0, 0, 0] := wstep w14 (by decide +kernel)
theorem w16 : wl f 16 = [1633837952, 0, 0, 0, 0, 0, 0, 0, 0, 0, 0, 0, 0, 0, 0, 24] := wstep w15 (by decide +kernel)
theorem w17 : wl f 17 = [1633837952, 0, 0, 0, 0, 0, 0, 0, 0, 0, 0, 0, 0, 0, 0, 24, 1633837952] := wstep w16 (by decide +kernel)
theorem w18 : wl f 18 = [1633837952, 0, 0, 0, 0, 0, 0, 0, 0, 0, 0, 0, 0, 0, 0, 24, 1633837952, 983040] := wstep w17 (by decide +kernel)
theorem w19 : wl f 19 = [1633837952, 0, 0, 0, 0, 0, 0, 0, 0, 0, 0, 0, 0, 0, 0, 24, 1633837952, 983040, 2108187653] := wstep w18 (by decide +kernel)
theorem w20 : wl f 20 = [1633837952, 0, 0, 0, 0, 0, 0, 0, 0, 0, 0, 0, 0, 0, 0, 24, 1633837952, 983040, 2108187653, 1610613702] := wstep w19 (by decide +kernel)
theorem w21 : wl f 21 = [1633837952, 0, 0, 0, 0, 0, 0, 0, 0, 0, 0, 0, 0, 0, 0, 24, 1633837952, 983040, 2108187653, 1610613702, 1050508152] := wstep w20 (by decide +kernel)
theorem w22 : wl f 22 = [1633837952, 0, 0, 0, 0, 0, 0, 0, 0, 0, 0, 0, 0, 0, 0, 24, 1633837952, 983040, 2108187653, 1610613702, 1050508152, 25426944] := wstep w21 (by decide +kernel)
theorem w23 : wl f 23 = [1633837952, 0, 0, 0, 0, 0, 0, 0, 0, 0, 0, 0, 0, 0, 0, 24, 1633837952, 983040, 2108187653, 1610613702, 1050508152, 25426944, 316456923] := wstep w22 (by decide +kernel)
theorem w24 : wl f 24 = [1633837952, 0, 0, 0, 0, 0, 0, 0, 0, 0, 0, 0, 0, 0, 0, 24, 1633837952, 983040, 2108187653, 1610613702, 1050508152, 25426944, 316456923, 3806512014] := wstep w23 (by decide +kernel)
theorem w25 : wl f 25 = [1633837952, 0, 0, 0, 0, 0, 0, 0, 0, 0, 0, 0, 0, 0, 0, 24, 1633837952, 983040, 2108187653, 1610613702, 1050508152, 25426944, 316456923, 3806512014, 3357629466] := wstep w24 (by decide +kernel)
theorem w26 : wl f 26 = [1633837952, 0, 0, 0, 0, 0, 0, 0, 0, 0, 0, 0, 0, 0, 0, 24, 1633837952, 983040, 2108187653, 1610613702, 1050508152, 25426944, 316456923, 3806512014, 3357629466, 3073800610] := wstep w25 (by decide +kernel)
theorem w27 : wl f 27 = [1633837952, 0, 0, 0, 0, 0, 0, 0, 0, 0, 0, 0, 0, 0, 0, 24, 1633837952, 983040, 2108187653, 1610613702, 1050508152, 25426944, 316456923, 3806512014, 3357629466, 3073800610, 3854317833] := wstep w26 (by decide +kernel)
theorem w28 : wl f 28 = [1633837952, 0, 0, 0, 0, 0, 0, 0, 0, 0, 0, 0, 0, 0, 0, 24, 1633837952, 983040, 2108187653, 1610613702, 1050508152, 25426944, 316456923, 3806512014, 3357629466, 3073800610, 3854317833, 845560923] := wstep w27 (by decide +kernel)
theorem w29 : wl f 29 = [1633837952, 0, 0, 0, 0, 0, 0, 0, 0, 0, 0, 0, 0, 0, 0, 24, 1633837952, 983040, 2108187653, 1610613702, 1050508152, 25426944, 316456923, 3806512014, 3357629466, 3073800610, 3854317833, 845560923, 2636160359] := wstep w28 (by decide +kernel)
theorem w30 : wl f 30 = [1633837952, 0, 0, 0, 0, 0, 0, 0, 0, 0, 0, 0, 0, 0, 0, 24, 1633837952, 983040, 2108187653, 1610613702, 1050508152, 25426944, 316456923, 3806512014, 3357629466, 3073800610, 3854317833, 845560923, 2636160359, 3968280267] := wstep w29 (by decide +kernel)
theorem w31 : wl f 31 = [1633837952, 0, 0, 0, 0, 0, 0, 0, 0, 0, 0, 0, 0, 0, 0, 24, 1633837952, 983040, 2108187653, 1610613702, 1050508152, 25426944, 316456923, 3806512014, 3357629466, 3073800610, 3854317833, 845560923, 2636160359, 3968280267, 1881225380] := wstep w30 (by decide +kernel)
theorem w32 : wl f 32 = [1633837952, 0, 0, 0, 0, 0, 0, 0, 0, 0, 0, 0, 0, 0, 0, 24, 1633837952, 983040, 2108187653, 1610613702, 1050508152, 25426944, 316456923, 3806512014, 3357629466, 3073800610, 3854317833, 845560923, 2636160359, 3968280267, 1881225380, 3552024379] := wstep w31 (by decide +kernel)
theorem w33 : wl f 33 = [1633837952, 0, 0, 0, 0, 0, 0, 0, 0, 0, 0, 0, 0, 0, 0, 24, 1633837952, 983040, 2108187653, 1610613702, 1050508152, 25426944, 316456923, 3806512014, 3357629466, 3073800610, 3854317833, 845560923, 2636160359, 3968280267, 1881225380, 3552024379, 2482346367] := wstep w32 (by decide +kernel)
theorem w34 : wl f 34 = [1633837952, 0, 0, 0, 0, 0, 0, 0, 0, 0, 0, 0, 0, 0, 0, 24, 1633837952, 983040, 2108187653, 1610613702, 1050508152, 25426944, 316456923, 3806512014, 3357629466, 3073800610, 3854317833, 845560923, 2636160359, 3968280267, 1881225380, 3552024379, 2482346367, 996719219] := wstep w33 (by decide +kernel)
theorem w35 : wl f 35 = [1633837952, 0, 0, 0, 0, 0, 0, 0, 0, 0, 0, 0, 0, 0, 0, 24, 1633837952, 983040, 2108187653, 1610613702, 1050508152, 25426944, 316456923, 3806512014, 3357629466, 3073800610, 3854317833, 845560923, 2636160359, 3968280267, 1881225380, 3552024379, 2482346367, 996719219, 2952069057] := wstep w34 (by decide +kernel)
theorem w36 : wl f 36 = [1633837952, 0, 0, 0, 0, 0, 0, 0, 0, 0, 0, 0, 0, 0, 0, 24, 1633837952, 983040, 2108187653, 1610613702, 1050508152, 25426944, 316456923, 3806512014, 3357629466, 3073800610, 3854317833, 845560923, 2636160359, 3968280267, 1881225380, 3552024379, 2482346367, 996719219, 2952069057, 4043988066] := wstep w35 (by decide +kernel)
theorem w37 : wl f 37 = [1633837952, 0, 0, 0, 0, 0, 0, 0, 0, 0, 0, 0, 0, 0, 0, 24, 1633837952, 983040, 2108187653, 1610613702, 1050508152, 25426944, 316456923, 3806512014, 3357629466, 3073800610, 3854317833, 845560923, 2636160359, 3968280267, 1881225380, 3552024379, 2482346367, 996719219, 2952069057, 4043988066, 176896406] := wstep w36 (by decide +kernel)
theorem w38 : wl f 38 = [1633837952, 0, 0, 0, 0, 0, 0, 0, 0, 0, 0, 0, 0, 0, 0, 24, 1633837952, 983040, 2108187653, 1610613702, 1050508152, 25426944, 316456923, 3806512014, 3357629466, 3073800610, 3854317833, 845560923, 2636160359, 3968280267, 1881225380, 3552024379, 2482346367, 996719219, 2952069057, 4043988066, 176896406, 1924104970] := wstep w37 (by decide +kernel)
theorem w39 : wl f 39 = [1633837952, 0, 0, 0, 0, 0, 0, 0, 0, 0, 0, 0, 0, 0, 0, 24, 1633837952, 983040, 2108187653, 1610613702, 1050508152, 25426944, 316456923, 3806512014, 3357629466, 3073800610, 3854317833, 845560923, 2636160359, 3968280267, 1881225380, 3552024379, 2482346367, 996719219, 2952069057, 4043988066, 176896406, 1924104970, 2483675966] := wstep w38 (by decide +kernel)
theorem w40 : wl f 40 = [1633837952, 0, 0, 0, 0, 0, 0, 0, 0, 0, 0, 0, 0, 0, 0, 24, 1633837952, 983040, 2108187653, 1610613702, 1050508152, 25426944, 316456923, 3806512014, 3357629466, 3073800610, 3854317833, 845560923, 2636160359, 3968280267, 1881225380, 3552024379, 2482346367, 996719219, 2952069057, 4043988066, 176896406, 1924104970, 2483675966, 610538786] := wstep w39 (by decide +kernel)
theorem w41 : wl f 41 = [1633837952, 0, 0, 0, 0, 0, 0, 0, 0, 0, 0, 0, 0, 0, 0, 24, 1633837952, 983040, 2108187653, 1610613702, 1050508152, 25426944, 316456923, 3806512014, 3357629466, 3073800610, 3854317833, 845560923, 2636160359, 3968280267, 1881225380, 3552024379, 2482346367, 996719219, 2952069057, 4043988066, 176896406, 1924104970, 2483675966, 610538786, 2672279444] := wstep w40 (by decide +kernel)
theorem w42 : wl f 42 = [1633837952, 0, 0, 0, 0, 0, 0, 0, 0, 0, 0, 0, 0, 0, 0, 24, 1633837952, 983040, 2108187653, 1610613702, 1050508152, 25426944, 316456923, 3806512014, 3357629466, 3073800610, 3854317833, 845560923, 2636160359, 3968280267, 1881225380, 3552024379, 2482346367, 996719219, 2952069057, 4043988066, 176896406, 1924104970, 2483675966, 610538786, 2672279444, 4037431130] := wstep w41 (by decide +kernel)
theorem w43 : wl f 43 = [1633837952, 0, 0, 0, 0, 0, 0, 0, 0, 0, 0, 0, 0, 0, 0, 24, 1633837952, 983040, 2108187653, 1610613702, 1050508152, 25426944, 316456923, 3806512014, 3357629466, 3073800610, 3854317833, 845560923, 2636160359, 3968280267, 1881225380, 3552024379, 2482346367, 996719219, 2952069057, 4043988066, 176896406, 1924104970, 2483675966, 610538786, 2672279444, 4037431130, 1042573945] := wstep w42 (by decide +kernel)
theorem w44 : wl f 44 = [1633837952, 0, 0, 0, 0, 0, 0, 0, 0, 0, 0, 0, 0, 0, 0, 24, 1633837952, 983040, 2108187653, 1610613702, 1050508152, 25426944, 316456923, 3806512014, 3357629466, 3073800610, 3854317833, 845560923, 2636160359, 3968280267, 1881225380, 3552024379, 2482346367, 996719219, 2952069057, 4043988066, 176896406, 1924104970, 2483675966, 610538786, 2672279444, 4037431130, 1042573945, 657669027] := wstep w43 (by decide +kernel)
theorem w45 : wl f 45 = [1633837952, 0, 0, 0, 0, 0, 0, 0, 0, 0, 0, 0, 0, 0, 0, 24, 1633837952, 983040, 2108187653, 1610613702, 1050508152, 25426944, 316456923, 3806512014, 3357629466, 3073800610, 3854317833, 845560923, 2636160359, 3968280267, 1881225380, 3552024379, 2482346367, 996719219, 2952069057, 4043988066, 176896406, 1924104970, 2483675966, 610538786, 2672279444, 4037431130, 1042573945, 657669027, 206005234] := wstep w44 (by decide +kernel)
theorem w46 : wl f 46 = [1633837952, 0, 0, 0, 0, 0, 0, 0, 0, 0, 0, 0, 0, 0, 0, 24, 1633837952, 983040, 2108187653, 1610613702, 1050508152, 25426944, 316456923, 3806512014, 3357629466, 3073800610, 3854317833, 845560923, 2636160359, 3968280267, 1881225380, 3552024379, 2482346367, 996719219, 2952069057, 4043988066, 176896406, 1924104970, 2483675966, 610538786, 2672279444, 4037431130, 1042573945, 657669027, 206005234, 2215296807] := wstep w45 (by decide +kernel)
theorem w47 : wl f 47 = [1633837952, 0, 0, 0, 0, 0, 0, 0, 0, 0, 0, 0, 0, 0, 0, 24, 1633837952, 983040, 2108187653, 1610613702, 1050508152, 25426944, 316456923, 3806512014, 3357629466, 3073800610, 3854317833, 845560923, 2636160359, 3968280267, 1881225380, 3552024379, 2482346367, 996719219, 2952069057, 4043988066, 176896406, 1924104970, 2483675966, 610538786, 2672279444, 4037431130, 1042573945, 657669027, 206005234, 2215296807, 2049510749] := wstep w46 (by decide +kernel)
theorem w48 : wl f 48 = [1633837952, 0, 0, 0, 0, 0, 0, 0, 0, 0, 0, 0, 0, 0, 0, 24, 1633837952, 983040, 2108187653, 1610613702, 1050508152, 25426944, 316456923, 3806512014, 3357629466, 3073800610, 3854317833, 845560923, 2636160359, 3968280267, 1881225380, 3552024379, 2482346367, 996719219, 2952069057, 4043988066, 176896406, 1924104970, 2483675966, 610538786, 2672279444, 4037431130, 1042573945, 657669027, 206005234, 2215296807, 2049510749, 106709978] := wstep w47 (by decide +kernel)
theorem w49 : wl f 49 = [1633837952, 0, 0, 0, 0, 0, 0, 0, 0, 0, 0, 0, 0, 0, 0, 24, 1633837952, 983040, 2108187653, 1610613702, 1050508152, 25426944, 316456923, 3806512014, 3357629466, 3073800610, 3854317833, 845560923, 2636160359, 3968280267, 1881225380, 3552024379, 2482346367, 996719219, 2952069057, 4043988066, 176896406, 1924104970, 2483675966, 610538786, 2672279444, 4037431130, 1042573945, 657669027, 206005234, 2215296807, 2049510749, 106709978, 4215179723] := wstep w48 (by decide +kernel)
theorem w50 : wl f 50 = [1633837952, 0, 0, 0, 0, 0, 0, 0, 0, 0, 0, 0, 0, 0, 0, 24, 1633837952, 983040, 2108187653, 1610613702, 1050508152, 25426944, 316456923, 3806512014, 3357629466, 3073800610, 3854317833, 845560923, 2636160359, 3968280267, 1881225380, 3552024379, 2482346367, 996719219, 2952069057, 4043988066, 176896406, 1924104970, 2483675966, 610538786, 2672279444, 4037431130, 1042573945, 657669027, 206005234, 2215296807, 2049510749, 106709978, 4215179723, 3430291419] := wstep w49 (by decide +kernel)
theorem w51 : wl f 51 = [1633837952, 0, 0, 0, 0, 0, 0, 0, 0, 0, 0, 0, 0, 0, 0, 24, 1633837952, 983040, 2108187653, 1610613702, 1050508152, 25426944, 316456923, 3806512014, 3357629466, 3073800610, 3854317833, 845560923, 2636160359, 3968280267, 1881225380, 3552024379, 2482346367, 996719219, 2952069057, 4043988066, 176896406, 1924104970, 2483675966, 610538786, 2672279444, 4037431130, 1042573945, 657669027, 206005234, 2215296807, 2049510749, 106709978, 4215179723, 3430291419, 3118885940] := wstep w50 (by decide +kernel)
theorem w52 : wl f 52 = [1633837952, 0, 0, 0, 0, 0, 0, 0, 0, 0, 0, 0, 0, 0, 0, 24, 1633837952, 983040, 2108187653, 1610613702, 1050508152, 25426944, 316456923, 3806512014, 3357629466, 3073800610, 3854317833, 845560923, 2636160359, 3968280267, 1881225380, 3552024379, 2482346367, 996719219, 2952069057, 4043988066, 176896406, 1924104970, 2483675966, 610538786, 2672279444, 4037431130, 1042573945, 657669027, 206005234, 2215296807, 2049510749, 106709978, 4215179723, 3430291419, 3118885940, 2845390439] := wstep w51 (by decide +kernel)
theorem w53 : wl f 53 = [1633837952, 0, 0, 0, 0, 0, 0, 0, 0, 0, 0, 0, 0, 0, 0, 24, 1633837952, 983040, 2108187653, 1610613702, 1050508152, 25426944, 316456923, 3806512014, 3357629466, 3073800610, 3854317833, 845560923, 2636160359, 3968280267, 1881225380, 3552024379, 2482346367, 996719219, 2952069057, 4043988066, 176896406, 1924104970, 2483675966, 610538786, 2672279444, 4037431130, 1042573945, 657669027, 206005234, 2215296807, 2049510749, 106709978, 4215179723, 3430291419, 3118885940, 2845390439, 2226839261] := wstep w52 (by decide +kernel)
theorem w54 : wl f 54 = [1633837952, 0, 0, 0, 0, 0, 0, 0, 0, 0, 0, 0, 0, 0, 0, 24, 1633837952, 983040, 2108187653, 1610613702, 1050508152, 25426944, 316456923, 3806512014, 3357629466, 3073800610, 3854317833, 845560923, 2636160359, 3968280267, 1881225380, 3552024379, 2482346367, 996719219, 2952069057, 4043988066, 176896406, 1924104970, 2483675966, 610538786, 2672279444, 4037431130, 1042573945, 657669027, 206005234, 2215296807, 2049510749, 106709978, 4215179723, 3430291419, 3118885940, 2845390439, 2226839261, 3256115900] := wstep w53 (by decide +kernel)
theorem w55 : wl f 55 = [1633837952, 0, 0, 0, 0, 0, 0, 0, 0, 0, 0, 0, 0, 0, 0, 24, 1633837952, 983040, 2108187653, 1610613702, 1050508152, 25426944, 316456923, 3806512014, 3357629466, 3073800610, 3854317833, 845560923, 2636160359, 3968280267, 1881225380, 3552024379, 2482346367, 996719219, 2952069057, 4043988066, 176896406, 1924104970, 2483675966, 610538786, 2672279444, 4037431130, 1042573945, 657669027, 206005234, 2215296807, 2049510749, 106709978, 4215179723, 3430291419, 3118885940, 2845390439, 2226839261, 3256115900, 344409900] := wstep w54 (by decide +kernel)
theorem w56 : wl f 56 = [1633837952, 0, 0, 0, 0, 0, 0, 0, 0, 0, 0, 0, 0, 0, 0, 24, 1633837952, 983040, 2108187653, 1610613702, 1050508152, 25426944, 316456923, 3806512014, 3357629466, 3073800610, 3854317833, 845560923, 2636160359, 3968280267, 1881225380, 3552024379, 2482346367, 996719219, 2952069057, 4043988066, 176896406, 1924104970, 2483675966, 610538786, 2672279444, 4037431130, 1042573945, 657669027, 206005234, 2215296807, 2049510749, 106709978, 4215179723, 3430291419, 3118885940, 2845390439, 2226839261, 3256115900, 344409900, 2987358873] := wstep w55 (by decide +kernel)
theorem w57 : wl f 57 = [1633837952, 0, 0, 0, 0, 0, 0, 0, 0, 0, 0, 0, 0, 0, 0, 24, 1633837952, 983040, 2108187653, 1610613702, 1050508152, 25426944, 316456923, 3806512014, 3357629466, 3073800610, 3854317833, 845560923, 2636160359, 3968280267, 1881225380, 3552024379, 2482346367, 996719219, 2952069057, 4043988066, 176896406, 1924104970, 2483675966, 610538786, 2672279444, 4037431130, 1042573945, 657669027, 206005234, 2215296807, 2049510749, 106709978, 4215179723, 3430291419, 3118885940, 2845390439, 2226839261, 3256115900, 344409900, 2987358873, 4015503821] := wstep w56 (by decide +kernel)
theorem w58 : wl f 58 = [1633837952, 0, 0, 0, 0, 0, 0, 0, 0, 0, 0, 0, 0, 0, 0, 24, 1633837952, 983040, 2108187653, 1610613702, 1050508152, 25426944, 316456923, 3806512014, 3357629466, 3073800610, 3854317833, 845560923, 2636160359, 3968280267, 1881225380, 3552024379, 2482346367, 996719219, 2952069057, 4043988066, 176896406, 1924104970, 2483675966, 610538786, 2672279444, 4037431130, 1042573945, 657669027, 206005234, 2215296807, 2049510749, 106709978, 4215179723, 3430291419, 3118885940, 2845390439, 2226839261, 3256115900, 344409900, 2987358873, 4015503821, 3957764664] := wstep w57 (by decide +kernel)
theorem w59 : wl f 59 = [1633837952, 0, 0, 0, 0, 0, 0, 0, 0, 0, 0, 0, 0, 0, 0, 24, 1633837952, 983040, 2108187653, 1610613702, 1050508152, 25426944, 316456923, 3806512014, 3357629466, 3073800610, 3854317833, 845560923, 2636160359, 3968280267, 1881225380, 3552024379, 2482346367, 996719219, 2952069057, 4043988066, 176896406, 1924104970, 2483675966, 610538786, 2672279444, 4037431130, 1042573945, 657669027, 206005234, 2215296807, 2049510749, 106709978, 4215179723, 3430291419, 3118885940, 2845390439, 2226839261, 3256115900, 344409900, 2987358873, 4015503821, 3957764664, 2682456414] := wstep w58 (by decide +kernel)
theorem w60 : wl f 60 = [1633837952, 0, 0, 0, 0, 0, 0, 0, 0, 0, 0, 0, 0, 0, 0, 24, 1633837952, 983040, 2108187653, 1610613702, 1050508152, 25426944, 316456923, 3806512014, 3357629466, 3073800610, 3854317833, 845560923, 2636160359, 3968280267, 1881225380, 3552024379, 2482346367, 996719219, 2952069057, 4043988066, 176896406, 1924104970, 2483675966, 610538786, 2672279444, 4037431130, 1042573945, 657669027, 206005234, 2215296807, 2049510749, 106709978, 4215179723, 3430291419, 3118885940, 2845390439, 2226839261, 3256115900, 344409900, 2987358873, 4015503821, 3957764664, 2682456414, 2025622859] := wstep w59 (by decide +kernel)
theorem w61 : wl f 61 = [1633837952, 0, 0, 0, 0, 0, 0, 0, 0, 0, 0, 0, 0, 0, 0, 24, 1633837952, 983040, 2108187653, 1610613702, 1050508152, 25426944, 316456923, 3806512014, 3357629466, 3073800610, 3854317833, 845560923, 2636160359, 3968280267, 1881225380, 3552024379, 2482346367, 996719219, 2952069057, 4043988066, 176896406, 1924104970, 2483675966, 610538786, 2672279444, 4037431130, 1042573945, 657669027, 206005234, 2215296807, 2049510749, 106709978, 4215179723, 3430291419, 3118885940, 2845390439, 2226839261, 3256115900, 344409900, 2987358873, 4015503821, 3957764664, 2682456414, 2025622859, 2755645205] := wstep w60 (by decide +kernel)
theorem w62 : wl f 62 = [1633837952, 0, 0, 0, 0, 0, 0, 0, 0, 0, 0, 0, 0, 0, 0, 24, 1633837952, 983040, 2108187653, 1610613702, 1050508152, 25426944, 316456923, 3806512014, 3357629466, 3073800610, 3854317833, 845560923, 2636160359, 3968280267, 1881225380, 3552024379, 2482346367, 996719219, 2952069057, 4043988066, 176896406, 1924104970, 2483675966, 610538786, 2672279444, 4037431130, 1042573945, 657669027, 206005234, 2215296807, 2049510749, 106709978, 4215179723, 3430291419, 3118885940, 2845390439, 2226839261, 3256115900, 344409900, 2987358873, 4015503821, 3957764664, 2682456414, 2025622859, 2755645205, 1720397816] := wstep w61 (by decide +kernel)
theorem w63 : wl f 63 = [1633837952, 0, 0, 0, 0, 0, 0, 0, 0, 0, 0, 0, 0, 0, 0, 24, 1633837952, 983040, 2108187653, 1610613702, 1050508152, 25426944, 316456923, 3806512014, 3357629466, 3073800610, 3854317833, 845560923, 2636160359, 3968280267, 1881225380, 3552024379, 2482346367, 996719219, 2952069057, 4043988066, 176896406, 1924104970, 2483675966, 610538786, 2672279444, 4037431130, 1042573945, 657669027, 206005234, 2215296807, 2049510749, 106709978, 4215179723, 3430291419, 3118885940, 2845390439, 2226839261, 3256115900, 344409900, 2987358873, 4015503821, 3957764664, 2682456414, 2025622859, 2755645205, 1720397816, 4004225740] := wstep w62 (by decide +kernel)
theorem w64 : wl f 64 = [1633837952, 0, 0, 0, 0, 0, 0, 0, 0, 0, 0, 0, 0, 0, 0, 24, 1633837952, 983040, 2108187653, 1610613702, 1050508152, 25426944, 316456923, 3806512014, 3357629466, 3073800610, 3854317833, 845560923, 2636160359, 3968280267, 1881225380, 3552024379, 2482346367, 996719219, 2952069057, 4043988066, 176896406, 1924104970, 2483675966, 610538786, 2672279444, 4037431130, 1042573945, 657669027, 206005234, 2215296807, 2049510749, 106709978, 4215179723, 3430291419, 3118885940, 2845390439, 2226839261, 3256115900, 344409900, 2987358873, 4015503821, 3957764664, 2682456414, 2025622859, 2755645205, 1720397816, 4004225740, 313650667] := wstep w63 (by decide +kernel)
theorem r0 : rds K (wl f 64) H 0 = [1779033703, 3144134277, 1013904242, 2773480762, 1359893119, 2600822924, 528734635, 1541459225] := rfl
theorem r1 : rds K (wl f 64) H 1 = [1567288269, 1779033703, 3144134277, 1013904242, 4197074466, 1359893119, 2600822924, 528734635] := rstep r0 (k := 1116352408) (x := 1633837952) (by decide +kernel) (by rw [w64]; decide +kernel) (by decide +kernel)
theorem r2 : rds K (wl f 64) H 2 = [1516951981, 1567288269, 1779033703, 3144134277, 2026797449, 4197074466, 1359893119, 2600822924] := rstep r1 (k := 1899447441) (x := 0) (by decide +kernel) (by rw [w64]; decide +kernel) (by decide +kernel)
theorem r3 : rds K (wl f 64) H 3 = [3368241063, 1516951981, 1567288269, 1779033703, 4180228587, 2026797449, 4197074466, 1359893119] := rstep r2 (k := 3049323471) (x := 0) (by decide +kernel) (by rw [w64]; decide +kernel) (by decide +kernel)
theorem r4 : rds K (wl f 64) H 4 = [3578852966, 3368241063, 1516951981, 1567288269, 618661968, 4180228587, 2026797449, 4197074466] := rstep r3 (k := 3921009573) (x := 0) (by decide +kernel) (by rw [w64]; decide +kernel) (by decide +kernel)
theorem r5 : rds K (wl f 64) H 5 = [71342698, 3578852966, 3368241063, 1516951981, 1135452741, 618661968, 4180228587, 2026797449] := rstep r4 (k := 961987163) (x := 0) (by decide +kernel) (by rw [w64]; decide +kernel) (by decide +kernel)
theorem r6 : rds K (wl f 64) H 6 = [725748213, 71342698, 3578852966, 3368241063, 1900175533, 1135452741, 618661968, 4180228587] := rstep r5 (k := 1508970993) (x := 0) (by decide +kernel) (by rw [w64]; decide +kernel) (by decide +kernel)
theorem r7 : rds K (wl f 64) H 7 = [3842179968, 725748213, 71342698, 3578852966, 2603066369, 1900175533, 1135452741, 618661968] := rstep r6 (k := 2453635748) (x := 0) (by decide +kernel) (by rw [w64]; decide +kernel) (by decide +kernel)
theorem r8 : rds K (wl f 64) H 8 = [2241887071, 3842179968, 725748213, 71342698, 207977081, 2603066369, 1900175533, 1135452741] := rstep r7 (k := 2870763221) (x := 0) (by decide +kernel) (by rw [w64]; decide +kernel) (by decide +kernel)
theorem r9 : rds K (wl f 64) H 9 = [2382687417, 2241887071, 3842179968, 725748213, 852110732, 207977081, 2603066369, 1900175533] := rstep r8 (k := 3624381080) (x := 0) (by decide +kernel) (by rw [w64]; decide +kernel) (by decide +kernel)
theorem r10 : rds K (wl f 64) H 10 = [2357671019, 2382687417, 2241887071, 3842179968, 482944406, 852110732, 207977081, 2603066369] := rstep r9 (k := 310598401) (x := 0) (by decide +kernel) (by rw [w64]; decide +kernel) (by decide +kernel)
theorem r11 : rds K (wl f 64) H 11 = [1201185780, 2357671019, 2382687417, 2241887071, 1131095016, 482944406, 852110732, 207977081] := rstep r10 (k := 607225278) (x := 0) (by decide +kernel) (by rw [w64]; decide +kernel) (by decide +kernel)
theorem r12 : rds K (wl f 64) H 12 = [4146054569, 1201185780, 2357671019, 2382687417, 2171590377, 1131095016, 482944406, 852110732] := rstep r11 (k := 1426881987) (x := 0) (by decide +kernel) (by rw [w64]; decide +kernel) (by decide +kernel)
theorem r13 : rds K (wl f 64) H 13 = [2274437520, 4146054569, 1201185780, 2357671019, 509051416, 2171590377, 1131095016, 482944406] := rstep r12 (k := 1925078388) (x := 0) (by decide +kernel) (by rw [w64]; decide +kernel) (by decide +kernel)
theorem r14 : rds K (wl f 64) H 14 = [3643992854, 2274437520, 4146054569, 1201185780, 1952073950, 509051416, 2171590377, 1131095016] := rstep r13 (k := 2162078206) (x := 0) (by decide +kernel) (by rw [w64]; decide +kernel) (by decide +kernel)
theorem r15 : rds K (wl f 64) H 15 = [3227803614, 3643992854, 2274437520, 4146054569, 194179596, 1952073950, 509051416, 2171590377] := rstep r14 (k := 2614888103) (x := 0) (by decide +kernel) (by rw [w64]; decide +kernel) (by decide +kernel)
theorem r16 : rds K (wl f 64) H 16 = [2969183118, 3227803614, 3643992854, 2274437520, 123276749, 194179596, 1952073950, 509051416] := rstep r15 (k := 3248222580) (x := 24) (by decide +kernel) (by rw [w64]; decide +kernel) (by decide +kernel)
theorem r17 : rds K (wl f 64) H 17 = [567974555, 2969183118, 3227803614, 3643992854, 2150900380, 123276749, 194179596, 1952073950] := rstep r16 (k := 3835390401) (x := 1633837952) (by decide +kernel) (by rw [w64]; decide +kernel) (by decide +kernel)
theorem r18 : rds K (wl f 64) H 18 = [3271285201, 567974555, 2969183118, 3227803614, 2221859924, 2150900380, 123276749, 194179596] := rstep r17 (k := 4022224774) (x := 983040) (by decide +kernel) (by rw [w64]; decide +kernel) (by decide +kernel)
theorem r19 : rds K (wl f 64) H 19 = [4269243327, 3271285201, 567974555, 2969183118, 3431569761, 2221859924, 2150900380, 123276749] := rstep r18 (k := 264347078) (x := 2108187653) (by decide +kernel) (by rw [w64]; decide +kernel) (by decide +kernel)
theorem r20 : rds K (wl f 64) H 20 = [3790736435, 4269243327, 3271285201, 567974555, 2959311225, 3431569761, 2221859924, 2150900380] := rstep r19 (k := 604807628) (x := 1610613702) (by decide +kernel) (by rw [w64]; decide +kernel) (by decide +kernel)
theorem r21 : rds K (wl f 64) H 21 = [2647034723, 3790736435, 4269243327, 3271285201, 2329577776, 2959311225, 3431569761, 2221859924] := rstep r20 (k := 770255983) (x := 1050508152) (by decide +kernel) (by rw [w64]; decide +kernel) (by decide +kernel)
theorem r22 : rds K (wl f 64) H 22 = [3261099373, 2647034723, 3790736435, 4269243327, 3777329520, 2329577776, 2959311225, 3431569761] := rstep r21 (k := 1249150122) (x := 25426944) (by decide +kernel) (by rw [w64]; decide +kernel) (by decide +kernel)
theorem r23 : rds K (wl f 64) H 23 = [2812502591, 3261099373, 2647034723, 3790736435, 1240797514, 3777329520, 2329577776, 2959311225] := rstep r22 (k := 1555081692) (x := 316456923) (by decide +kernel) (by rw [w64]; decide +kernel) (by decide +kernel)
theorem r24 : rds K (wl f 64) H 24 = [3319086477, 2812502591, 3261099373, 2647034723, 2856829767, 1240797514, 3777329520, 2329577776] := rstep r23 (k := 1996064986) (x := 3806512014) (by decide +kernel) (by rw [w64]; decide +kernel) (by decide +kernel)
theorem r25 : rds K (wl f 64) H 25 = [472655928, 3319086477, 2812502591, 3261099373, 673443729, 2856829767, 1240797514, 3777329520] := rstep r24 (k := 2554220882) (x := 3357629466) (by decide +kernel) (by rw [w64]; decide +kernel) (by decide +kernel)
theorem r26 : rds K (wl f 64) H 26 = [3454534525, 472655928, 3319086477, 2812502591, 339230094, 673443729, 2856829767, 1240797514] := rstep r25 (k := 2821834349) (x := 3073800610) (by decide +kernel) (by rw [w64]; decide +kernel) (by decide +kernel)
theorem r27 : rds K (wl f 64) H 27 = [3056518332, 3454534525, 472655928, 3319086477, 3343672598, 339230094, 673443729, 2856829767] := rstep r26 (k := 2952996808) (x := 3854317833) (by decide +kernel) (by rw [w64]; decide +kernel) (by decide +kernel)
theorem r28 : rds K (wl f 64) H 28 = [2010346792, 3056518332, 3454534525, 472655928, 3992961016, 3343672598, 339230094, 673443729] := rstep r27 (k := 3210313671) (x := 845560923) (by decide +kernel) (by rw [w64]; decide +kernel) (by decide +kernel)
theorem r29 : rds K (wl f 64) H 29 = [909411017, 2010346792, 3056518332, 3454534525, 1628611511, 3992961016, 3343672598, 339230094] := rstep r28 (k := 3336571891) (x := 2636160359) (by decide +kernel) (by rw [w64]; decide +kernel) (by decide +kernel)
theorem r30 : rds K (wl f 64) H 30 = [2684750640, 909411017, 2010346792, 3056518332, 2917635127, 1628611511, 3992961016, 3343672598] := rstep r29 (k := 3584528711) (x := 3968280267) (by decide +kernel) (by rw [w64]; decide +kernel) (by decide +kernel)
theorem r31 : rds K (wl f 64) H 31 = [3935906338, 2684750640, 909411017, 2010346792, 17410874, 2917635127, 1628611511, 3992961016] := rstep r30 (k := 113926993) (x := 1881225380) (by decide +kernel) (by rw [w64]; decide +kernel) (by decide +kernel)
theorem r32 : rds K (wl f 64) H 32 = [1941126133, 3935906338, 2684750640, 909411017, 3126399250, 17410874, 2917635127, 1628611511] := rstep r31 (k := 338241895) (x := 3552024379) (by decide +kernel) (by rw [w64]; decide +kernel) (by decide +kernel)
theorem r33 : rds K (wl f 64) H 33 = [2564891911, 1941126133, 3935906338, 2684750640, 2631529974, 3126399250, 17410874, 2917635127] := rstep r32 (k := 666307205) (x := 2482346367) (by decide +kernel) (by rw [w64]; decide +kernel) (by decide +kernel)
theorem r34 : rds K (wl f 64) H 34 = [4267724277, 2564891911, 1941126133, 3935906338, 1495571923, 2631529974, 3126399250, 17410874] := rstep r33 (k := 773529912) (x := 996719219) (by decide +kernel) (by rw [w64]; decide +kernel) (by decide +kernel)
theorem r35 : rds K (wl f 64) H 35 = [2846323596, 4267724277, 2564891911, 1941126133, 140458035, 1495571923, 2631529974, 3126399250] := rstep r34 (k := 1294757372) (x := 2952069057) (by decide +kernel) (by rw [w64]; decide +kernel) (by decide +kernel)
theorem r36 : rds K (wl f 64) H 36 = [1705037796, 2846323596, 4267724277, 2564891911, 4105175766, 140458035, 1495571923, 2631529974] := rstep r35 (k := 1396182291) (x := 4043988066) (by decide +kernel) (by rw [w64]; decide +kernel) (by decide +kernel)
theorem r37 : rds K (wl f 64) H 37 = [1101421745, 1705037796, 2846323596, 4267724277, 124953195, 4105175766, 140458035, 1495571923] := rstep r36 (k := 1695183700) (x := 176896406) (by decide +kernel) (by rw [w64]; decide +kernel) (by decide +kernel)
theorem r38 : rds K (wl f 64) H 38 = [887035396, 1101421745, 1705037796, 2846323596, 2768741693, 124953195, 4105175766, 140458035] := rstep r37 (k := 1986661051) (x := 1924104970) (by decide +kernel) (by rw [w64]; decide +kernel) (by decide +kernel)
theorem r39 : rds K (wl f 64) H 39 = [1841658506, 887035396, 1101421745, 1705037796, 4034403272, 2768741693, 124953195, 4105175766] := rstep r38 (k := 2177026350) (x := 2483675966) (by decide +kernel) (by rw [w64]; decide +kernel) (by decide +kernel)
theorem r40 : rds K (wl f 64) H 40 = [2045405306, 1841658506, 887035396, 1101421745, 519815328, 4034403272, 2768741693, 124953195] := rstep r39 (k := 2456956037) (x := 610538786) (by decide +kernel) (by rw [w64]; decide +kernel) (by decide +kernel)
theorem r41 : rds K (wl f 64) H 41 = [3597076326, 2045405306, 1841658506, 887035396, 641019235, 519815328, 4034403272, 2768741693] := rstep r40 (k := 2730485921) (x := 2672279444) (by decide +kernel) (by rw [w64]; decide +kernel) (by decide +kernel)
theorem r42 : rds K (wl f 64) H 42 = [3745932591, 3597076326, 2045405306, 1841658506, 2206934801, 641019235, 519815328, 4034403272] := rstep r41 (k := 2820302411) (x := 4037431130) (by decide +kernel) (by rw [w64]; decide +kernel) (by decide +kernel)
theorem r43 : rds K (wl f 64) H 43 = [397020670, 3745932591, 3597076326, 2045405306, 3737995029, 2206934801, 641019235, 519815328] := rstep r42 (k := 3259730800) (x := 1042573945) (by decide +kernel) (by rw [w64]; decide +kernel) (by decide +kernel)
theorem r44 : rds K (wl f 64) H 44 = [2638983059, 397020670, 3745932591, 3597076326, 4255271982, 3737995029, 2206934801, 641019235] := rstep r43 (k := 3345764771) (x := 657669027) (by decide +kernel) (by rw [w64]; decide +kernel) (by decide +kernel)
theorem r45 : rds K (wl f 64) H 45 = [643991573, 2638983059, 397020670, 3745932591, 2819559920, 4255271982, 3737995029, 2206934801] := rstep r44 (k := 3516065817) (x := 206005234) (by decide +kernel) (by rw [w64]; decide +kernel) (by decide +kernel)
theorem r46 : rds K (wl f 64) H 46 = [1923828625, 643991573, 2638983059, 397020670, 3077922209, 2819559920, 4255271982, 3737995029] := rstep r45 (k := 3600352804) (x := 2215296807) (by decide +kernel) (by rw [w64]; decide +kernel) (by decide +kernel)
theorem r47 : rds K (wl f 64) H 47 = [2706117808, 1923828625, 643991573, 2638983059, 3581645993, 3077922209, 2819559920, 4255271982] := rstep r46 (k := 4094571909) (x := 2049510749) (by decide +kernel) (by rw [w64]; decide +kernel) (by decide +kernel)
theorem r48 : rds K (wl f 64) H 48 = [1098003085, 2706117808, 1923828625, 643991573, 4274981830, 3581645993, 3077922209, 2819559920] := rstep r47 (k := 275423344) (x := 106709978) (by decide +kernel) (by rw [w64]; decide +kernel) (by decide +kernel)
theorem r49 : rds K (wl f 64) H 49 = [91585771, 1098003085, 2706117808, 1923828625, 3178315832, 4274981830, 3581645993, 3077922209] := rstep r48 (k := 430227734) (x := 4215179723) (by decide +kernel) (by rw [w64]; decide +kernel) (by decide +kernel)
theorem r50 : rds K (wl f 64) H 50 = [4045142696, 91585771, 1098003085, 2706117808, 1851537676, 3178315832, 4274981830, 3581645993] := rstep r49 (k := 506948616) (x := 3430291419) (by decide +kernel) (by rw [w64]; decide +kernel) (by decide +kernel)
theorem r51 : rds K (wl f 64) H 51 = [2047150241, 4045142696, 91585771, 1098003085, 1391578359, 1851537676, 3178315832, 4274981830] := rstep r50 (k := 659060556) (x := 3118885940) (by decide +kernel) (by rw [w64]; decide +kernel) (by decide +kernel)
theorem r52 : rds K (wl f 64) H 52 = [2288941602, 2047150241, 4045142696, 91585771, 1227037726, 1391578359, 1851537676, 3178315832] := rstep r51 (k := 883997877) (x := 2845390439) (by decide +kernel) (by rw [w64]; decide +kernel) (by decide +kernel)
theorem r53 : rds K (wl f 64) H 53 = [270520975, 2288941602, 2047150241, 4045142696, 1386118400, 1227037726, 1391578359, 1851537676] := rstep r52 (k := 958139571) (x := 2226839261) (by decide +kernel) (by rw [w64]; decide +kernel) (by decide +kernel)
theorem r54 : rds K (wl f 64) H 54 = [4117770203, 270520975, 2288941602, 2047150241, 2672265155, 1386118400, 1227037726, 1391578359] := rstep r53 (k := 1322822218) (x := 3256115900) (by decide +kernel) (by rw [w64]; decide +kernel) (by decide +kernel)
theorem r55 : rds K (wl f 64) H 55 = [1053056219, 4117770203, 270520975, 2288941602, 3842906959, 2672265155, 1386118400, 1227037726] := rstep r54 (k := 1537002063) (x := 344409900) (by decide +kernel) (by rw [w64]; decide +kernel) (by decide +kernel)
theorem r56 : rds K (wl f 64) H 56 = [952932627, 1053056219, 4117770203, 270520975, 1422599787, 3842906959, 2672265155, 1386118400] := rstep r55 (k := 1747873779) (x := 2987358873) (by decide +kernel) (by rw [w64]; decide +kernel) (by decide +kernel)
theorem r57 : rds K (wl f 64) H 57 = [4241590395, 952932627, 1053056219, 4117770203, 2606665836, 1422599787, 3842906959, 2672265155] := rstep r56 (k := 1955562222) (x := 4015503821) (by decide +kernel) (by rw [w64]; decide +kernel) (by decide +kernel)
theorem r58 : rds K (wl f 64) H 58 = [3227702383, 4241590395, 952932627, 1053056219, 2118385806, 2606665836, 1422599787, 3842906959] := rstep r57 (k := 2024104815) (x := 3957764664) (by decide +kernel) (by rw [w64]; decide +kernel) (by decide +kernel)
theorem r59 : rds K (wl f 64) H 59 = [4290184306, 3227702383, 4241590395, 952932627, 1837350854, 2118385806, 2606665836, 1422599787] := rstep r58 (k := 2227730452) (x := 2682456414) (by decide +kernel) (by rw [w64]; decide +kernel) (by decide +kernel)
theorem r60 : rds K (wl f 64) H 60 = [3064893439, 4290184306, 3227702383, 4241590395, 2988158269, 1837350854, 2118385806, 2606665836] := rstep r59 (k := 2361852424) (x := 2025622859) (by decide +kernel) (by rw [w64]; decide +kernel) (by decide +kernel)
theorem r61 : rds K (wl f 64) H 61 = [3093179625, 3064893439, 4290184306, 3227702383, 2518632596, 2988158269, 1837350854, 2118385806] := rstep r60 (k := 2428436474) (x := 2755645205) (by decide +kernel) (by rw [w64]; decide +kernel) (by decide +kernel)
theorem r62 : rds K (wl f 64) H 62 = [80891244, 3093179625, 3064893439, 4290184306, 2492278198, 2518632596, 2988158269, 1837350854] := rstep r61 (k := 2756734187) (x := 1720397816) (by decide +kernel) (by rw [w64]; decide +kernel) (by decide +kernel)
theorem r63 : rds K (wl f 64) H 63 = [3550093669, 80891244, 3093179625, 3064893439, 4212265488, 2492278198, 2518632596, 2988158269] := rstep r62 (k := 3204031479) (x := 4004225740) (by decide +kernel) (by rw [w64]; decide +kernel) (by decide +kernel)
theorem r64 : rds K (wl f 64) H 64 = [1349398616, 3550093669, 80891244, 3093179625, 1593118500, 4212265488, 2492278198, 2518632596] := rstep r63 (k := 3329325298) (x := 313650667) (by decide +kernel) (by rw [w64]; decide +kernel) (by decide +kernel)
theorem pad : padded [97, 98, 99] = t := by decide +kernel
theorem b1 : hsh H K t 1 = [3128432319, 2399260650, 1094795486, 1571693091, 2953011619, 2518121116, 3021012833, 4060091821] := by
  show blk K f H = _
  unfold blk
  rw [r64]
  decide +kernel
end Abc
theorem sha_abc : sha [97, 98, 99] = [186, 120, 22, 191, 143, 1, 207, 234, 65, 65, 64, 222, 93, 174, 34, 35, 176, 3, 97, 163, 150, 23, 122, 156, 180, 16, 255, 97, 242, 0, 21, 173] := by
  have eh : HH = Abc.H := HH_is
  have ek : KK = Abc.K := KK_is
  unfold sha shaK
  rw [eh, ek, Abc.pad, show Abc.t.length / 64 = 1 from by decide +kernel, Abc.b1]
  decide +kernel
end Go.Proofs.YthbfodmpoheahaaDoor

/-
  A digest's cells. Conditions: none.
-/
namespace Go.Proofs.YthbfodmpoheahaaDoor
open Go.RowKit
open Pol (co Sm)

/-- A digest's cells. -/
def Dgc (c : Array Value) (l : List Nat) : Prop := c.size = 32 ∧ ∀ i, i < 32 → c[i]? = some (.int .u8 ((co l i : Nat) : Int))
end Go.Proofs.YthbfodmpoheahaaDoor
