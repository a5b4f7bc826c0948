/-
  The plain mathematics of reducing rows: what holds of the rows when some columns are done, that a column more keeps it, and what the reduced rows tell of the solution and of the rank. Conditions: none; nothing of the program is named here.
-/
import Derived.Test.YtlncelfacfflhaaLin
namespace Lin
open Gf (mul quo)
open Pol (xs co Sm)

def Ker (m N : Nat) (F : Nat → Nat → Nat) (x : Nat → Nat) : Prop := ∀ i, i < m → dot N (F i) x = 0
/-- Columns below c are done; ps are those of the first coefficients. -/
structure Red (m N c : Nat) (K : (Nat → Nat) → Prop) (F : Nat → Nat → Nat) (ps : List Nat) : Prop where
  bytes : ∀ i k, F i k < 256
  same : Alike (Ker m N F) K
  few : ps.length ≤ m
  lt : ∀ i, i < ps.length → co ps i < c
  one : ∀ i, i < ps.length → F i (co ps i) = 1
  left : ∀ i, i < ps.length → ∀ j, j < co ps i → F i j = 0
  clear : ∀ i i', i < ps.length → i' < m → i' ≠ i → F i' (co ps i) = 0
  rest : ∀ i, ps.length ≤ i → i < m → ∀ j, j < c → F i j = 0
  cnt : Cnt (NotFree K) c ps.length

theorem Red.inj {m N c : Nat} {K : (Nat → Nat) → Prop} {F : Nat → Nat → Nat} {ps : List Nat} (h : Red m N c K F ps) {i i' : Nat} (hi : i < ps.length) (hi' : i' < ps.length) (e : co ps i = co ps i') : i = i' := by
  apply Classical.byContradiction
  intro hne
  have h1 := h.clear i i' hi (by have := h.few; omega) (fun e => hne e.symm)
  rw [e, h.one i' hi'] at h1
  omega
theorem Red.notFree {m N c : Nat} {K : (Nat → Nat) → Prop} {F : Nat → Nat → Nat} {ps : List Nat} (h : Red m N c K F ps) (hc : c ≤ N) {i : Nat} (hi : i < ps.length) : NotFree K (co ps i) := by
  rintro ⟨v, hv, kv, hne, htop⟩
  have hk := (h.same v hv).2 kv i (by have := h.few; omega)
  rw [dot_single N (F i) v (co ps i) (by have := h.lt i hi; omega) (fun k hk hne => by
    rcases Nat.lt_or_gt_of_ne hne with h1 | h1
    · exact .inl (h.left i hi k h1)
    · exact .inr (htop k h1)), h.one i hi, Gf.one_mul _ (hv _)] at hk
  exact hne hk
/-- What the rows say of one column that has no first coefficient. -/
def pick (F : Nat → Nat → Nat) (ps : List Nat) (c k : Nat) : Nat := xs ps.length fun i => if co ps i = k then F i c else 0
theorem pick_lt {m N c : Nat} {K : (Nat → Nat) → Prop} {F : Nat → Nat → Nat} {ps : List Nat} (h : Red m N c K F ps) (c0 k : Nat) : pick F ps c0 k < 256 := Pol.xs_lt _ fun i _ => by
  split
  · exact h.bytes _ _
  · omega
theorem pick_at {m N c : Nat} {K : (Nat → Nat) → Prop} {F : Nat → Nat → Nat} {ps : List Nat} (h : Red m N c K F ps) (c0 : Nat) {i : Nat} (hi : i < ps.length) : pick F ps c0 (co ps i) = F i c0 := by
  unfold pick
  rw [Pol.xs_single _ i _ hi (fun i' hi' hne => if_neg fun e => hne (h.inj hi' hi e)), if_pos rfl]
theorem pick_no {F : Nat → Nat → Nat} {ps : List Nat} {c0 k : Nat} (h : ∀ i, i < ps.length → co ps i ≠ k) : pick F ps c0 k = 0 := Pol.xs_zero _ fun i hi => if_neg (h i hi)
theorem Red.isFree {m N c : Nat} {K : (Nat → Nat) → Prop} {F : Nat → Nat → Nat} {ps : List Nat} (h : Red m N c K F ps) (c0 : Nat) (hc0 : c0 ≤ c) (hN : c0 < N) (hcN : c ≤ N) (hno : ∀ i, i < ps.length → co ps i ≠ c0) (hz : ∀ i, ps.length ≤ i → i < m → F i c0 = 0) : Free K c0 := by
  have hd : ∀ k, k ≠ c0 ∧ pick F ps c0 k ≠ 0 → k < c0 := fun k hk => by
    apply Classical.byContradiction
    intro hge
    apply hk.2
    refine Pol.xs_zero _ fun i hi => ?_
    split
    · rename_i e
      exact h.left i hi c0 (by rw [e]; omega)
    · rfl
  obtain ⟨u, hu⟩ : ∃ u : Nat → Nat, u = fun k => if k = c0 then 0 else pick F ps c0 k := ⟨_, rfl⟩
  obtain ⟨e, he⟩ : ∃ e : Nat → Nat, e = fun k => if k = c0 then 1 else 0 := ⟨_, rfl⟩
  have hub : By u := fun k => by rw [hu]; show (if k = c0 then 0 else pick F ps c0 k) < 256; split; omega; exact pick_lt h _ _
  have heb : By e := fun k => by rw [he]; show (if k = c0 then 1 else 0) < 256; split <;> omega
  have hu0 : ∀ k, c0 ≤ k → u k = 0 := fun k hk => by
    rw [hu]
    show (if k = c0 then 0 else pick F ps c0 k) = 0
    split
    · rfl
    · rename_i hne
      apply Classical.byContradiction
      intro hp
      have := hd k ⟨hne, hp⟩
      omega
  have he1 : ∀ k, k ≠ c0 → e k = 0 := fun k hk => by rw [he]; exact if_neg hk
  have hec : e c0 = 1 := by rw [he]; exact if_pos rfl
  refine ⟨fun k => e k ^^^ u k, fun k => Gf.xor_lt _ _ (heb k) (hub k), (h.same _ (fun k => Gf.xor_lt _ _ (heb k) (hub k))).1 fun i hi => ?_, ?_, fun j hj => ?_⟩
  · rw [dot_add N (F i) e u (h.bytes i) heb hub, dot_single N (F i) e c0 hN (fun k _ hne => .inr (he1 k hne)), hec, Gf.mul_one _ (h.bytes _ _)]
    by_cases hid : i < ps.length
    · rw [dot_single N (F i) u (co ps i) (by have := h.lt i hid; omega) (fun k hk hne => ?_), h.one i hid, Gf.one_mul _ (hub _)]
      · rw [show u (co ps i) = pick F ps c0 (co ps i) from by rw [hu]; exact if_neg (hno i hid), pick_at h c0 hid, Nat.xor_self]
      · by_cases hp : ∃ i', i' < ps.length ∧ co ps i' = k
        · obtain ⟨i', hi', rfl⟩ := hp
          exact .inl (h.clear i' i hi' hi (fun e => hne (by rw [e])))
        · right
          rw [hu]
          show (if k = c0 then 0 else pick F ps c0 k) = 0
          split
          · rfl
          · exact pick_no fun i' hi' e => hp ⟨i', hi', e⟩
    · rw [hz i (by omega) hi, Nat.zero_xor]
      refine dot_zero N _ _ fun k hk => ?_
      by_cases hkc : k < c0
      · exact .inl (h.rest i (by omega) hi k (by omega))
      · exact .inr (hu0 k (by omega))
  · show e c0 ^^^ u c0 ≠ 0
    rw [hec, hu0 c0 (Nat.le_refl _)]
    decide
  · show e j ^^^ u j = 0
    rw [he1 j (by omega), hu0 j (by omega)]
    rfl
theorem Red.skip {m N c : Nat} {K : (Nat → Nat) → Prop} {F : Nat → Nat → Nat} {ps : List Nat} (h : Red m N c K F ps) (hN : c < N) (hz : ∀ i, ps.length ≤ i → i < m → F i c = 0) : Red m N (c + 1) K F ps where
  bytes := h.bytes
  same := h.same
  few := h.few
  lt := fun i hi => by have := h.lt i hi; omega
  one := h.one
  left := h.left
  clear := h.clear
  rest := fun i h1 h2 j hj => by
    by_cases e : j = c
    · rw [e]; exact hz i h1 h2
    · exact h.rest i h1 h2 j (by omega)
  cnt := .inr ⟨fun hn => hn (h.isFree c (Nat.le_refl _) hN (Nat.le_of_lt hN) (fun i hi e => by have := h.lt i hi; omega) hz), h.cnt⟩

/-- The rows behind a step: row 'at' is divided by its coefficient, changed with the first that is left, and taken off all others. -/
def stepF (F : Nat → Nat → Nat) (d t c : Nat) (i k : Nat) : Nat :=
  if i = d then mul (F t k) (quo 1 (F t c)) else (if i = t then F d k else F i k) ^^^ mul (mul (F t k) (quo 1 (F t c))) (if i = t then F d c else F i c)
theorem co_snoc (ps : List Nat) (c i : Nat) : co (ps ++ [c]) i = if i < ps.length then co ps i else if i = ps.length then c else 0 := by
  unfold co
  by_cases h : i < ps.length
  · rw [if_pos h, List.getElem?_append_left h]
  · rw [if_neg h, List.getElem?_append_right (by omega)]
    by_cases e : i = ps.length
    · rw [if_pos e, e]; simp
    · rw [if_neg e, List.getElem?_eq_none (by simp; omega)]; rfl
theorem Red.step {m N c : Nat} {K : (Nat → Nat) → Prop} {F : Nat → Nat → Nat} {ps : List Nat} (h : Red m N c K F ps) (hN : c < N) (t : Nat) (ht : ps.length ≤ t) (htm : t < m) (hne : F t c ≠ 0) : Red m N (c + 1) K (stepF F ps.length t c) (ps ++ [c]) := by
  obtain ⟨d, hd⟩ : ∃ d, ps.length = d := ⟨_, rfl⟩
  obtain ⟨row, hrow⟩ : ∃ row : Nat → Nat, row = fun k => mul (F t k) (quo 1 (F t c)) := ⟨_, rfl⟩
  have hrb : By row := fun k => by rw [hrow]; exact Gf.mul_lt _ _
  have hinv := Gf.quo_mul 1 (F t c) (by omega) (h.bytes t c) hne
  have hrc : row c = 1 := by rw [hrow]; show mul (F t c) (quo 1 (F t c)) = 1; rw [Gf.mul_comm]; exact hinv
  have hr0 : ∀ j, j < c → row j = 0 := fun j hj => by rw [hrow]; show mul (F t j) _ = 0; rw [h.rest t ht htm j hj, Gf.zero_mul]
  have hst : ∀ i k, stepF F ps.length t c i k = if i = d then row k else (if i = t then F d k else F i k) ^^^ mul (row k) (if i = t then F d c else F i c) := fun i k => by rw [hrow, ← hd]; rfl
  have hG : ∀ i k, (if i = t then F d k else F i k) < 256 := fun i k => by split <;> exact h.bytes _ _
  have hb : ∀ i k, stepF F ps.length t c i k < 256 := fun i k => by
    rw [hst]
    split
    · exact hrb k
    · exact Gf.xor_lt _ _ (hG i k) (Gf.mul_lt _ _)
  have hdot : ∀ x, By x → ∀ i, i ≠ d → dot N (stepF F ps.length t c i) x = dot N (fun k => if i = t then F d k else F i k) x ^^^ mul (if i = t then F d c else F i c) (dot N row x) := fun x hx i hi => by
    rw [← dot_smul_left N _ row x (by split <;> exact h.bytes _ _) hrb hx, ← dot_add_left N _ _ x (hG i) (fun k => Gf.mul_lt _ _) hx]
    refine dot_congr (fun k _ => ?_) (fun _ _ => rfl)
    rw [hst, if_neg hi, Gf.mul_comm (row k)]
  have hdotd : ∀ x, dot N (stepF F ps.length t c d) x = dot N row x := fun x => dot_congr (fun k _ => by rw [hst, if_pos rfl]) (fun _ _ => rfl)
  have hrx : ∀ x, By x → dot N (F t) x = mul (F t c) (dot N row x) := fun x hx => by
    rw [← dot_smul_left N _ row x (h.bytes _ _) hrb hx]
    refine dot_congr (fun k _ => ?_) (fun _ _ => rfl)
    rw [hrow]
    show F t k = mul (F t c) (mul (F t k) (quo 1 (F t c)))
    rw [Gf.mul_comm (F t k), ← Gf.mul_assoc _ _ _ (h.bytes _ _) (Gf.quo_lt _ _) (h.bytes _ _), Gf.mul_comm (F t c), hinv, Gf.one_mul _ (h.bytes _ _)]
  have hsame : Alike (Ker m N (stepF F ps.length t c)) K := Alike.trans (fun x hx => by
    have hrow0 : dot N (F t) x = 0 ↔ dot N row x = 0 := by
      rw [hrx x hx]
      constructor
      · intro e
        apply Classical.byContradiction
        intro hn
        exact Gf.mul_ne _ _ hne hn e
      · intro e; rw [e, Gf.mul_zero]
    constructor
    · intro hk i hi
      have hr := hk d (by omega)
      rw [hdotd] at hr
      by_cases e : i = t
      · rw [e]; exact hrow0.2 hr
      · by_cases e' : i = d
        · by_cases etd : t = d
          · exact absurd (e'.trans etd.symm) e
          · have := hk t htm
            rw [hdot x hx t etd, hr, Gf.mul_zero, Nat.xor_zero] at this
            rw [e', ← this]
            exact dot_congr (fun k _ => by rw [if_pos rfl]) (fun _ _ => rfl)
        · have := hk i hi
          rw [hdot x hx i e', hr, Gf.mul_zero, Nat.xor_zero] at this
          rw [← this]
          exact dot_congr (fun k _ => by rw [if_neg e]) (fun _ _ => rfl)
    · intro hk i hi
      have hr := hrow0.1 (hk t htm)
      by_cases e' : i = d
      · rw [e', hdotd, hr]
      · rw [hdot x hx i e', hr, Gf.mul_zero, Nat.xor_zero]
        by_cases e : i = t
        · rw [← hk d (by omega)]
          exact dot_congr (fun k _ => by rw [if_pos e]) (fun _ _ => rfl)
        · rw [← hk i hi]
          exact dot_congr (fun k _ => by rw [if_neg e]) (fun _ _ => rfl)) h.same
  have hlen : (ps ++ [c]).length = d + 1 := by simp [hd]
  have hco : ∀ i, i < d → co (ps ++ [c]) i = co ps i := fun i hi => by rw [co_snoc, if_pos (by omega)]
  have hcd : co (ps ++ [c]) d = c := by rw [co_snoc, if_neg (by omega), if_pos hd.symm]
  have hlt := h.lt
  have hone := h.one
  have hleft := h.left
  have hclear := h.clear
  have hrest := h.rest
  rw [hd] at hlt hone hleft hclear hrest ht
  have hrp : ∀ i, i < d → row (co ps i) = 0 := fun i hi => hr0 _ (hlt i hi)
  have main : ∀ i, i < d + 1 → stepF F ps.length t c i (co (ps ++ [c]) i) = 1 ∧ (∀ j, j < co (ps ++ [c]) i → stepF F ps.length t c i j = 0) ∧ ∀ i', i' < m → i' ≠ i → stepF F ps.length t c i' (co (ps ++ [c]) i) = 0 := by
    intro i hi
    by_cases e : i = d
    · subst e
      rw [hcd]
      refine ⟨by rw [hst, if_pos rfl, hrc], fun j hj => by rw [hst, if_pos rfl, hr0 j hj], fun i' hi' hne' => ?_⟩
      rw [hst, if_neg hne', hrc, Gf.one_mul _ (hG i' c), Nat.xor_self]
    · have hid : i < d := by omega
      rw [hco i hid]
      have hit : i ≠ t := by omega
      refine ⟨?_, fun j hj => ?_, fun i' hi' hne' => ?_⟩
      · rw [hst, if_neg e, if_neg hit, hrp i hid, Gf.zero_mul, Nat.xor_zero, hone i hid]
      · rw [hst, if_neg e, if_neg hit, hr0 j (by have := hlt i hid; omega), Gf.zero_mul, Nat.xor_zero, hleft i hid j hj]
      · rw [hst]
        by_cases e2 : i' = d
        · rw [if_pos e2, hrp i hid]
        · rw [if_neg e2, hrp i hid, Gf.zero_mul, Nat.xor_zero]
          by_cases e3 : i' = t
          · rw [if_pos e3, hclear i d hid (by omega) (fun e => by omega)]
          · rw [if_neg e3, hclear i i' hid hi' hne']
  have hnf : NotFree K c := by
    rintro ⟨v, hv, kv, hvc, htop⟩
    have hk := (hsame v hv).2 kv d (by omega)
    have hm := main d (by omega)
    rw [hcd] at hm
    rw [dot_single N _ v c hN (fun k hk hne => by
      rcases Nat.lt_or_gt_of_ne hne with h1 | h1
      · exact .inl (hm.2.1 k h1)
      · exact .inr (htop k h1)), hm.1, Gf.one_mul _ (hv _)] at hk
    exact hvc hk
  constructor
  · exact hb
  · exact hsame
  · rw [hlen]; omega
  · intro i hi
    rw [hlen] at hi
    by_cases e : i = d
    · rw [e, hcd]; omega
    · rw [hco i (by omega)]; have := hlt i (by omega); omega
  · intro i hi; rw [hlen] at hi; exact (main i hi).1
  · intro i hi; rw [hlen] at hi; exact (main i hi).2.1
  · intro i i' hi hi' hne'; rw [hlen] at hi; exact (main i hi).2.2 i' hi' hne'
  · intro i h1 h2 j hj
    rw [hlen] at h1
    by_cases e : j = c
    · have := (main d (by omega)).2.2 i h2 (by omega)
      rw [hcd] at this
      rw [e]; exact this
    · rw [hst, if_neg (by omega), hr0 j (by omega), Gf.zero_mul, Nat.xor_zero]
      split
      · exact hrest d (Nat.le_refl _) (by omega) j (by omega)
      · exact hrest i (by omega) h2 j (by omega)
  · rw [hlen]
    have hcnt := h.cnt
    rw [hd] at hcnt
    exact .inl ⟨hnf, d, rfl, hcnt⟩

/-! ### What the reduced rows tell -/
theorem dot_succ (n : Nat) (r x : Nat → Nat) : dot (n + 1) r x = dot n r x ^^^ mul (r n) (x n) := rfl
theorem Red.none {m n : Nat} {K : (Nat → Nat) → Prop} {F : Nat → Nat → Nat} {ps : List Nat} (h : Red m (n + 1) n K F ps) {i : Nat} (h1 : ps.length ≤ i) (h2 : i < m) (h3 : F i n ≠ 0) : SolNone K n := fun x hx k => by
  have hk := (h.same _ (ext1_by n x hx)).2 k i h2
  rw [dot_succ, dot_zero n _ _ (fun j hj => .inl (h.rest i h1 h2 j hj)), Nat.zero_xor, show ext1 n x n = 1 from by unfold ext1; rw [if_neg (by omega), if_pos rfl], Gf.mul_one _ (h.bytes _ _)] at hk
  exact h3 hk
theorem co_range (n : Nat) (o : Nat → Nat) (i : Nat) : co ((List.range n).map o) i = if i < n then o i else 0 := by
  unfold co
  rw [List.getElem?_map]
  by_cases h : i < n
  · rw [if_pos h, List.getElem?_range h]; rfl
  · rw [if_neg h, List.getElem?_eq_none (by simp; omega)]; rfl
theorem Red.some {m n : Nat} {K : (Nat → Nat) → Prop} {F : Nat → Nat → Nat} {ps : List Nat} (h : Red m (n + 1) n K F ps) (hz : ∀ i, ps.length ≤ i → i < m → F i n = 0) (o : Nat → Nat) (ho : ∀ i, i < ps.length → o (co ps i) = F i n) (ho0 : ∀ k, k < n → (∀ i, i < ps.length → co ps i ≠ k) → o k = 0) :
    SolSome K n ((List.range n).map o) := by
  have hcases : ∀ k, k < n → (∃ i, i < ps.length ∧ co ps i = k) ∨ ∀ i, i < ps.length → co ps i ≠ k := fun k _ => by
    by_cases e : ∃ i, i < ps.length ∧ co ps i = k
    · exact .inl e
    · exact .inr fun i hi e' => e ⟨i, hi, e'⟩
  have hob : ∀ k, k < n → o k < 256 := fun k hk => by
    rcases hcases k hk with ⟨i, hi, rfl⟩ | hno
    · rw [ho i hi]; exact h.bytes _ _
    · rw [ho0 k hk hno]; omega
  have hsm : Sm ((List.range n).map o) := fun i => by
    rw [co_range]
    split
    · exact hob i (by assumption)
    · omega
  refine ⟨by simp, hsm, (h.same _ (ext1_by n _ hsm)).1 fun i hi => ?_, fun c hc hf => ?_⟩
  · have hx : ∀ k, k < n → ext1 n (co ((List.range n).map o)) k = o k := fun k hk => by
      unfold ext1
      rw [if_pos hk, co_range, if_pos hk]
    have hxn : ext1 n (co ((List.range n).map o)) n = 1 := by unfold ext1; rw [if_neg (by omega), if_pos rfl]
    rw [dot_succ, hxn, Gf.mul_one _ (h.bytes _ _), dot_congr (fun _ _ => rfl) hx]
    by_cases hid : i < ps.length
    · rw [dot_single n (F i) o (co ps i) (h.lt i hid) (fun k hk hne => ?_), h.one i hid, ho i hid, Gf.one_mul _ (h.bytes _ _), Nat.xor_self]
      rcases hcases k hk with ⟨i', hi', rfl⟩ | hno
      · exact .inl (h.clear i' i hi' hi (fun e => hne (by rw [e])))
      · exact .inr (ho0 k hk hno)
    · rw [dot_zero n _ _ (fun j hj => .inl (h.rest i (by omega) hi j hj)), hz i (by omega) hi]
      rfl
  · rw [co_range, if_pos hc]
    rcases hcases c hc with ⟨i, hi, rfl⟩ | hno
    · exact absurd hf (h.notFree (by omega) hi)
    · exact ho0 c hc hno
theorem red_start (m N : Nat) (F : Nat → Nat → Nat) (hb : ∀ i k, F i k < 256) : Red m N 0 (Ker m N F) F [] where
  bytes := hb
  same := fun _ _ => Iff.rfl
  few := Nat.zero_le _
  lt := fun i hi => absurd hi (by simp)
  one := fun i hi => absurd hi (by simp)
  left := fun i hi => absurd hi (by simp)
  clear := fun i i' hi => absurd hi (by simp)
  rest := fun i _ _ j hj => absurd hj (by omega)
  cnt := rfl
end Lin
