/-
  The plain mathematics of linear equations over the field: what the kernel of some rows tells, which unknowns are free, the one solution whose free unknowns are 0, and the rank. Conditions: none; nothing of the program is named here.
-/
import Derived.Test.YtlncelfacfflhaaPol
namespace Lin
open Gf (mul quo)
open Pol (xs co Sm)

/-- All are bytes. -/
def By (x : Nat → Nat) : Prop := ∀ k, x k < 256
/-- A row times unknowns. -/
def dot (N : Nat) (r x : Nat → Nat) : Nat := xs N fun k => mul (r k) (x k)
theorem dot_lt (N : Nat) (r x : Nat → Nat) : dot N r x < 256 := Pol.xs_lt N fun _ _ => Gf.mul_lt _ _
theorem dot_add (N : Nat) (r x y : Nat → Nat) (hr : By r) (hx : By x) (hy : By y) : dot N r (fun k => x k ^^^ y k) = dot N r x ^^^ dot N r y := by
  unfold dot
  rw [← Pol.xs_add]
  exact Pol.xs_congr N fun k _ => Gf.mul_add _ _ _ (hr k) (hx k) (hy k)
theorem dot_add_left (N : Nat) (r s x : Nat → Nat) (hr : By r) (hs : By s) (hx : By x) : dot N (fun k => r k ^^^ s k) x = dot N r x ^^^ dot N s x := by
  unfold dot
  rw [← Pol.xs_add]
  exact Pol.xs_congr N fun k _ => Gf.add_mul _ _ _ (hr k) (hs k) (hx k)
theorem dot_smul_left (N : Nat) (c : Nat) (r x : Nat → Nat) (hc : c < 256) (hr : By r) (hx : By x) : dot N (fun k => mul c (r k)) x = mul c (dot N r x) := by
  unfold dot
  rw [Pol.mul_xs c _ hc N fun _ _ => Gf.mul_lt _ _]
  exact Pol.xs_congr N fun k _ => Gf.mul_assoc _ _ _ hc (hr k) (hx k)
theorem dot_comm (N : Nat) (r x : Nat → Nat) : dot N r x = dot N x r := Pol.xs_congr N fun _ _ => Gf.mul_comm _ _
theorem dot_smul (N : Nat) (c : Nat) (r x : Nat → Nat) (hc : c < 256) (hr : By r) (hx : By x) : dot N r (fun k => mul c (x k)) = mul c (dot N r x) := by
  rw [dot_comm, dot_smul_left N c x r hc hx hr, dot_comm]
theorem dot_congr {N : Nat} {r s x y : Nat → Nat} (h : ∀ k, k < N → r k = s k) (h' : ∀ k, k < N → x k = y k) : dot N r x = dot N s y := Pol.xs_congr N fun k hk => by rw [h k hk, h' k hk]
theorem dot_zero (N : Nat) (r x : Nat → Nat) (h : ∀ k, k < N → r k = 0 ∨ x k = 0) : dot N r x = 0 := Pol.xs_zero N fun k hk => by
  rcases h k hk with e | e
  · rw [e, Gf.zero_mul]
  · rw [e, Gf.mul_zero]
theorem dot_single (N : Nat) (r x : Nat → Nat) (c : Nat) (hc : c < N) (h : ∀ k, k < N → k ≠ c → r k = 0 ∨ x k = 0) : dot N r x = mul (r c) (x c) :=
  Pol.xs_single _ c N hc fun k hk hne => by
    rcases h k hk hne with e | e
    · rw [e, Gf.zero_mul]
    · rw [e, Gf.mul_zero]

/-- Closed under sums and multiples. -/
structure IsLin (K : (Nat → Nat) → Prop) : Prop where
  add : ∀ x y, By x → By y → K x → K y → K (fun k => x k ^^^ y k)
  smul : ∀ c x, c < 256 → By x → K x → K (fun k => mul c (x k))
  /-- it depends on the values alone -/
  cong : ∀ x y, (∀ k, x k = y k) → K x → K y

/-- What all rows send to 0. -/
def KL (N : Nat) (rows : List (List Nat)) (x : Nat → Nat) : Prop := ∀ r ∈ rows, dot N (co r) x = 0
def Bytes (rows : List (List Nat)) : Prop := ∀ r ∈ rows, Sm r
theorem kl_lin (N : Nat) (rows : List (List Nat)) (h : Bytes rows) : IsLin (KL N rows) where
  add := fun x y hx hy h1 h2 r hr => by rw [dot_add N (co r) x y (h r hr) hx hy, h1 r hr, h2 r hr]; rfl
  smul := fun c x hc hx h1 r hr => by rw [dot_smul N c (co r) x hc (h r hr) hx, h1 r hr, Gf.mul_zero]
  cong := fun x y e h1 r hr => by rw [← h1 r hr]; exact dot_congr (fun _ _ => rfl) (fun k _ => (e k).symm)

/-- Something in K has its last part at c. -/
def Free (K : (Nat → Nat) → Prop) (c : Nat) : Prop := ∃ v, By v ∧ K v ∧ v c ≠ 0 ∧ ∀ j, c < j → v j = 0
def Alike (K K' : (Nat → Nat) → Prop) : Prop := ∀ x, By x → (K x ↔ K' x)
theorem Alike.symm {K K' : (Nat → Nat) → Prop} (h : Alike K K') : Alike K' K := fun x hx => (h x hx).symm
theorem Alike.trans {K K' K'' : (Nat → Nat) → Prop} (h : Alike K K') (k : Alike K' K'') : Alike K K'' := fun x hx => (h x hx).trans (k x hx)
theorem Alike.free {K K' : (Nat → Nat) → Prop} (h : Alike K K') (c : Nat) : Free K c ↔ Free K' c :=
  ⟨fun ⟨v, hv, k, r⟩ => ⟨v, hv, (h v hv).1 k, r⟩, fun ⟨v, hv, k, r⟩ => ⟨v, hv, (h v hv).2 k, r⟩⟩

/-- The unknowns, and 1 behind them. -/
def ext1 (n : Nat) (x : Nat → Nat) : Nat → Nat := fun k => if k < n then x k else if k = n then 1 else 0
theorem ext1_by (n : Nat) (x : Nat → Nat) (h : By x) : By (ext1 n x) := fun k => by
  unfold ext1
  split
  · exact h k
  · split <;> omega
/-- The solution whose free unknowns are 0; and: there is none. -/
structure SolSome (K : (Nat → Nat) → Prop) (n : Nat) (x : List Nat) : Prop where
  len : x.length = n
  sm : Sm x
  sol : K (ext1 n (co x))
  zero : ∀ c, c < n → Free K c → co x c = 0
def SolNone (K : (Nat → Nat) → Prop) (n : Nat) : Prop := ∀ x, By x → ¬ K (ext1 n x)
theorem SolSome.alike {K K' : (Nat → Nat) → Prop} {n : Nat} {x : List Nat} (h : SolSome K n x) (e : Alike K K') : SolSome K' n x :=
  ⟨h.len, h.sm, (e _ (ext1_by n _ h.sm)).1 h.sol, fun c hc hf => h.zero c hc ((e.free c).2 hf)⟩
theorem SolNone.alike {K K' : (Nat → Nat) → Prop} {n : Nat} (h : SolNone K n) (e : Alike K K') : SolNone K' n := fun x hx k => h x hx ((e _ (ext1_by n _ hx)).2 k)
theorem SolSome.not_none {K : (Nat → Nat) → Prop} {n : Nat} {x : List Nat} (h : SolSome K n x) : ¬ SolNone K n := fun k => k _ h.sm h.sol

theorem top_of : ∀ (n : Nat) (d : Nat → Nat), (∀ k, n ≤ k → d k = 0) → (∃ c, c < n ∧ d c ≠ 0 ∧ ∀ j, c < j → d j = 0) ∨ ∀ k, d k = 0
  | 0, _, h => .inr fun k => h k (Nat.zero_le _)
  | n + 1, d, h => by
    by_cases e : d n = 0
    · rcases top_of n d (fun k hk => by
        by_cases hk' : k = n
        · rw [hk', e]
        · exact h k (by omega)) with ⟨c, hc, r⟩ | r
      · exact .inl ⟨c, by omega, r⟩
      · exact .inr r
    · exact .inl ⟨n, by omega, e, fun j hj => h j (by omega)⟩

theorem list_ext {x y : List Nat} (hl : x.length = y.length) (h : ∀ i, i < x.length → co x i = co y i) : x = y := by
  apply List.ext_getElem hl
  intro i h1 h2
  have := h i h1
  unfold co at this
  rw [List.getElem?_eq_getElem h1, List.getElem?_eq_getElem h2] at this
  exact this
theorem sol_one {K : (Nat → Nat) → Prop} (hK : IsLin K) {n : Nat} {x y : List Nat} (h : SolSome K n x) (k : SolSome K n y) : x = y := by
  have hd := hK.add _ _ (ext1_by n _ h.sm) (ext1_by n _ k.sm) h.sol k.sol
  have hz : ∀ j, n ≤ j → (ext1 n (co x) j ^^^ ext1 n (co y) j) = 0 := fun j hj => by
    have e : ext1 n (co x) j = ext1 n (co y) j := by
      unfold ext1
      rw [if_neg (show ¬ j < n by omega), if_neg (show ¬ j < n by omega)]
    rw [e, Nat.xor_self]
  rcases top_of n _ hz with ⟨c, hc, hne, htop⟩ | hall
  · exfalso
    have hf : Free K c := ⟨_, fun j => Gf.xor_lt _ _ (ext1_by n _ h.sm j) (ext1_by n _ k.sm j), hd, hne, htop⟩
    apply hne
    unfold ext1
    rw [if_pos hc, if_pos hc, h.zero c hc hf, k.zero c hc hf]
    rfl
  · refine list_ext (h.len.trans k.len.symm) fun i hi => ?_
    have := hall i
    rw [h.len] at hi
    unfold ext1 at this
    rw [if_pos hi, if_pos hi] at this
    exact Gf.xor_zero_iff _ _ this
theorem kill {K : (Nat → Nat) → Prop} (hK : IsLin K) (n : Nat) (y : Nat → Nat) (hy : By y) (h : K (ext1 n y)) : ∀ t, ∃ z, By z ∧ K (ext1 n z) ∧ ∀ c, n - t ≤ c → c < n → Free K c → z c = 0
  | 0 => ⟨y, hy, h, fun c h1 h2 => by omega⟩
  | t + 1 => by
    obtain ⟨z, hz, hk, hf⟩ := kill hK n y hy h t
    by_cases ht : n - (t + 1) < n - t
    · by_cases hfr : Free K (n - (t + 1))
      · obtain ⟨v, hv, kv, hne, htop⟩ := hfr
        obtain ⟨c, hc⟩ : ∃ c, n - (t + 1) = c := ⟨_, rfl⟩
        rw [hc] at hne htop
        obtain ⟨q, hq⟩ : ∃ q, quo (z c) (v c) = q := ⟨_, rfl⟩
        have hq256 : q < 256 := by rw [← hq]; exact Gf.quo_lt _ _
        have hkill : z c ^^^ mul q (v c) = 0 := by rw [← hq, Gf.quo_mul _ _ (hz c) (hv c) hne, Nat.xor_self]
        refine ⟨fun k => z k ^^^ mul q (v k), fun k => Gf.xor_lt _ _ (hz k) (Gf.mul_lt _ _), ?_, fun c' h1 h2 h3 => ?_⟩
        · refine hK.cong _ _ (fun k => ?_) (hK.add _ _ (ext1_by n z hz) (fun k => Gf.mul_lt q (v k)) hk (hK.smul q v hq256 hv kv))
          unfold ext1
          by_cases hkn : k < n
          · rw [if_pos hkn, if_pos hkn]
          · rw [if_neg hkn, if_neg hkn, htop k (by omega), Gf.mul_zero, Nat.xor_zero]
        · by_cases e : c' = c
          · rw [e]; exact hkill
          · show z c' ^^^ mul q (v c') = 0
            rw [htop c' (by omega), Gf.mul_zero, Nat.xor_zero]
            exact hf c' (by omega) h2 h3
      · refine ⟨z, hz, hk, fun c' h1 h2 h3 => ?_⟩
        by_cases e : c' = n - (t + 1)
        · rw [e] at h3; exact absurd h3 hfr
        · exact hf c' (by omega) h2 h3
    · exact ⟨z, hz, hk, fun c' h1 h2 h3 => hf c' (by omega) h2 h3⟩
theorem sol_or {K : (Nat → Nat) → Prop} (hK : IsLin K) (n : Nat) : (∃ x, SolSome K n x) ∨ SolNone K n := by
  by_cases h : ∃ y, By y ∧ K (ext1 n y)
  · obtain ⟨y, hy, k⟩ := h
    obtain ⟨z, hz, kz, hf⟩ := kill hK n y hy k n
    refine .inl ⟨(List.range n).map z, by simp, fun i => ?_, ?_, fun c hc hfr => ?_⟩
    · unfold co
      rw [List.getElem?_map]
      by_cases hi : i < n
      · rw [List.getElem?_range hi]; exact hz i
      · rw [List.getElem?_eq_none (by simp; omega)]; simp
    · refine hK.cong _ _ (fun k => ?_) kz
      unfold ext1
      by_cases hk : k < n
      · rw [if_pos hk, if_pos hk]
        unfold co
        rw [List.getElem?_map, List.getElem?_range hk]; rfl
      · rw [if_neg hk, if_neg hk]
    · unfold co
      rw [List.getElem?_map, List.getElem?_range hc]
      exact hf c (by omega) hc hfr
  · exact .inr fun x hx k => h ⟨x, hx, k⟩

/-! ### Counting -/
def Cnt (P : Nat → Prop) : Nat → Nat → Prop
  | 0, d => d = 0
  | N + 1, d => (P N ∧ ∃ e, d = e + 1 ∧ Cnt P N e) ∨ (¬ P N ∧ Cnt P N d)
theorem cnt_is (P : Nat → Prop) : ∀ N, ∃ d, Cnt P N d
  | 0 => ⟨0, rfl⟩
  | N + 1 => by
    obtain ⟨d, h⟩ := cnt_is P N
    by_cases e : P N
    · exact ⟨d + 1, .inl ⟨e, d, rfl, h⟩⟩
    · exact ⟨d, .inr ⟨e, h⟩⟩
theorem cnt_le {P : Nat → Prop} : ∀ {N d : Nat}, Cnt P N d → d ≤ N
  | 0, d, h => by rw [show d = 0 from h]; exact Nat.le_refl _
  | N + 1, d, h => by
    rcases h with ⟨_, e, rfl, h⟩ | ⟨_, h⟩
    · have := cnt_le h; omega
    · have := cnt_le h; omega
/-- P' holds wherever P does; then it counts no less, and where it differs at one place at most, one more at most. -/
theorem cnt_sub {P P' : Nat → Prop} : ∀ {N d d' : Nat}, (∀ c, c < N → P c → P' c) → Cnt P N d → Cnt P' N d' → d ≤ d'
  | 0, d, d', _, h, h' => by rw [show d = 0 from h]; exact Nat.zero_le _
  | N + 1, d, d', hs, h, h' => by
    rcases h with ⟨p, e, rfl, h⟩ | ⟨p, h⟩ <;> rcases h' with ⟨p', e', rfl, h'⟩ | ⟨p', h'⟩
    · have := cnt_sub (fun c hc => hs c (by omega)) h h'; omega
    · exact absurd (hs N (by omega) p) p'
    · have := cnt_sub (fun c hc => hs c (by omega)) h h'; omega
    · exact cnt_sub (fun c hc => hs c (by omega)) h h'
theorem cnt_same {P P' : Nat → Prop} {N d d' : Nat} (hs : ∀ c, c < N → (P c ↔ P' c)) (h : Cnt P N d) (h' : Cnt P' N d') : d = d' :=
  Nat.le_antisymm (cnt_sub (fun c hc => (hs c hc).1) h h') (cnt_sub (fun c hc => (hs c hc).2) h' h)
theorem cnt_more {P P' : Nat → Prop} : ∀ {N d d' : Nat}, (∀ c c', c < N → c' < N → P' c → ¬ P c → P' c' → ¬ P c' → c = c') → Cnt P N d → Cnt P' N d' → d' ≤ d + 1
  | 0, d, d', _, _, h' => by rw [show d' = 0 from h']; omega
  | N + 1, d, d', hs, h, h' => by
    rcases h with ⟨p, e, rfl, h⟩ | ⟨p, h⟩ <;> rcases h' with ⟨p', e', rfl, h'⟩ | ⟨p', h'⟩
    · have := cnt_more (fun c c' h1 h2 => hs c c' (by omega) (by omega)) h h'; omega
    · have := cnt_more (fun c c' h1 h2 => hs c c' (by omega) (by omega)) h h'; omega
    · have := cnt_sub (P := P') (P' := P) (fun c hc hp' => by
        by_cases hp : P c
        · exact hp
        · have := hs c N (by omega) (by omega) hp' hp p' p; omega) h' h
      omega
    · have := cnt_more (fun c c' h1 h2 => hs c c' (by omega) (by omega)) h h'; omega
def NotFree (K : (Nat → Nat) → Prop) (c : Nat) : Prop := ¬ Free K c
theorem rank_alike {K K' : (Nat → Nat) → Prop} {N d d' : Nat} (e : Alike K K') (h : Cnt (NotFree K) N d) (h' : Cnt (NotFree K') N d') : d = d' :=
  cnt_same (fun c _ => not_congr (e.free c)) h h'

/-! ### One row more -/
theorem kl_snoc (N : Nat) (rows : List (List Nat)) (r : List Nat) (x : Nat → Nat) : KL N (rows ++ [r]) x ↔ KL N rows x ∧ dot N (co r) x = 0 := by
  unfold KL
  simp only [List.mem_append, List.mem_singleton]
  exact ⟨fun h => ⟨fun s hs => h s (.inl hs), h r (.inr rfl)⟩, fun h s hs => hs.elim (h.1 s) (fun e => e ▸ h.2)⟩
theorem snoc_rank {N d d' : Nat} {rows : List (List Nat)} {r : List Nat} (hb : Bytes rows) (hr : Sm r) (h : Cnt (NotFree (KL N rows)) N d) (h' : Cnt (NotFree (KL N (rows ++ [r]))) N d') : d ≤ d' ∧ d' ≤ d + 1 := by
  have hK := kl_lin N rows hb
  have key : ∀ c c', c < c' → Free (KL N rows) c → ¬ Free (KL N (rows ++ [r])) c → Free (KL N rows) c' → Free (KL N (rows ++ [r])) c' := by
    rintro c c' hcc ⟨v, hv, kv, hne, htop⟩ hnot ⟨v', hv', kv', hne', htop'⟩
    have h1 : dot N (co r) v ≠ 0 := fun e => hnot ⟨v, hv, (kl_snoc N rows r v).2 ⟨kv, e⟩, hne, htop⟩
    obtain ⟨q, hq⟩ : ∃ q, quo (dot N (co r) v') (dot N (co r) v) = q := ⟨_, rfl⟩
    have hq256 : q < 256 := by rw [← hq]; exact Gf.quo_lt _ _
    refine ⟨fun k => v' k ^^^ mul q (v k), fun k => Gf.xor_lt _ _ (hv' k) (Gf.mul_lt _ _), (kl_snoc N rows r _).2 ⟨hK.add _ _ hv' (fun k => Gf.mul_lt q (v k)) kv' (hK.smul q v hq256 hv kv), ?_⟩, ?_, fun j hj => ?_⟩
    · rw [dot_add N (co r) v' _ hr hv' (fun k => Gf.mul_lt q (v k)), dot_smul N q (co r) v hq256 hr hv, ← hq, Gf.quo_mul _ _ (dot_lt _ _ _) (dot_lt _ _ _) h1, Nat.xor_self]
    · show v' c' ^^^ mul q (v c') ≠ 0
      rw [htop c' hcc, Gf.mul_zero, Nat.xor_zero]
      exact hne'
    · show v' j ^^^ mul q (v j) = 0
      rw [htop' j hj, htop j (by omega), Gf.mul_zero]
      rfl
  constructor
  · refine cnt_sub (fun c _ hn => ?_) h h'
    intro hf
    apply hn
    obtain ⟨v, hv, kv, rest⟩ := hf
    exact ⟨v, hv, ((kl_snoc N rows r v).1 kv).1, rest⟩
  · refine cnt_more (fun c c' _ _ h1 h2 h3 h4 => ?_) h h'
    have f1 : Free (KL N rows) c := Classical.byContradiction fun e => h2 e
    have f2 : Free (KL N rows) c' := Classical.byContradiction fun e => h4 e
    rcases Nat.lt_trichotomy c c' with hlt | e | hgt
    · exact absurd (key c c' hlt f1 h1 f2) h3
    · exact e
    · exact absurd (key c' c hgt f2 h3 f1) h1
theorem none_rank {N d : Nat} (h : Cnt (NotFree (KL N [])) N d) : d = 0 := by
  have hf : ∀ c, Free (KL N []) c := fun c => ⟨fun k => if k = c then 1 else 0, fun k => by show (if k = c then 1 else 0) < 256; split <;> omega, fun r hr => absurd hr (by simp), by simp, fun j hj => if_neg (by omega)⟩
  have hz : ∀ M e, Cnt (NotFree (KL N [])) M e → e = 0 := by
    intro M
    induction M with
    | zero => intro e he; exact he
    | succ M ih =>
      intro e he
      rcases he with ⟨hp, _⟩ | ⟨_, he⟩
      · exact absurd (hf M) hp
      · exact ih e he
  exact hz N d h
theorem kl_mem {N : Nat} {rows rows' : List (List Nat)} (h : ∀ r, r ∈ rows ↔ r ∈ rows') : Alike (KL N rows) (KL N rows') := fun _ _ => ⟨fun k r hr => k r ((h r).2 hr), fun k r hr => k r ((h r).1 hr)⟩
theorem rank_le {N : Nat} : ∀ (rows : List (List Nat)), Bytes rows → ∀ d, Cnt (NotFree (KL N rows)) N d → d ≤ rows.length
  | [], _, d, h => by rw [none_rank h]; exact Nat.zero_le _
  | r :: rows, hb, d, h => by
    obtain ⟨e, he⟩ := cnt_is (NotFree (KL N rows)) N
    obtain ⟨d', hd'⟩ := cnt_is (NotFree (KL N (rows ++ [r]))) N
    have hb' : Bytes rows := fun s hs => hb s (List.mem_cons_of_mem _ hs)
    have h1 := (snoc_rank hb' (hb r (by simp)) he hd').2
    have h2 := rank_le rows hb' e he
    have h3 : d = d' := rank_alike (kl_mem fun s => by simp [or_comm]) h hd'
    rw [List.length_cons]
    omega
end Lin
