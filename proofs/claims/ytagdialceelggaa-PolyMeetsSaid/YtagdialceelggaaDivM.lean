/-
  The plain mathematics of long division: what holds of the quotient's and the rest's coefficients behind some steps. Conditions: none.
-/
import Derived.Test.YtagdialceelggaaPAddM
import Derived.Test.YtagdialceelggaaBack
namespace Go.Proofs.Ytagdialceelggaa
open Pol (co Sm trim pc)

/-- Behind k steps of a division of ra by rb, whose last coefficient stands at place last. -/
structure DivInv (ra rb : List Nat) (nq last k : Nat) (fq fr : Nat → Nat) : Prop where
  low : ∀ i, i < nq - k → fq i = 0
  top : ∀ j, nq - k + last ≤ j → fr j = 0
  first : 0 < k → fq (nq - 1) ≠ 0
  sum : ∀ j, fr j ^^^ pc nq fq (co rb) j = co ra j
  out : ∀ j, ra.length ≤ j → fr j = 0

theorem divInv_start (ra rb : List Nat) (last : Nat) : DivInv ra rb (ra.length - last) last 0 (fun _ => 0) (co ra) where
  low := fun _ _ => rfl
  top := fun j hj => Pol.co_out ra j (by omega)
  first := fun h => by omega
  sum := fun j => by
    have : pc (ra.length - last) (fun _ => 0) (co rb) j = 0 := Pol.xs_zero _ fun i _ => by split <;> simp [Gf.zero_mul]
    rw [this, Nat.xor_zero]
  out := fun j hj => Pol.co_out ra j hj

theorem divInv_step (ra rb : List Nat) (last k : Nat) (fq fr : Nat → Nat) (hl : rb.length = last + 1) (hb0 : co rb last ≠ 0) (hrb : Sm rb) (hra : ra ≠ [] → co ra (ra.length - 1) ≠ 0)
    (hq : ∀ i, fq i < 256) (hr : ∀ j, fr j < 256) (h : DivInv ra rb (ra.length - last) last k fq fr) (hk : k < ra.length - last) :
    DivInv ra rb (ra.length - last) last (k + 1) (upd fq (ra.length - last - 1 - k) (Gf.mul (fr (ra.length - last - 1 - k + last)) (Gf.quo 1 (co rb last))))
      (addm (ra.length - last - 1 - k) (Gf.mul (fr (ra.length - last - 1 - k + last)) (Gf.quo 1 (co rb last))) rb fr rb.length) := by
  obtain ⟨p, hp⟩ : ∃ p, ra.length - last - 1 - k = p := ⟨_, rfl⟩
  obtain ⟨v, hv⟩ : ∃ v, Gf.mul (fr (p + last)) (Gf.quo 1 (co rb last)) = v := ⟨_, rfl⟩
  have hv256 : v < 256 := by rw [← hv]; exact Gf.mul_lt _ _
  rw [hp, hv]
  have hpn : p < ra.length - last := by omega
  have hfq0 : fq p = 0 := h.low p (by omega)
  have hcancel : Gf.mul v (co rb last) = fr (p + last) := by
    rw [← hv, Gf.mul_assoc _ _ _ (hr _) (Gf.quo_lt _ _) (hrb _), Gf.quo_mul 1 _ (by omega) (hrb _) hb0, Gf.mul_one _ (hr _)]
  constructor
  · intro i hi
    unfold upd
    rw [if_neg (by omega)]
    exact h.low i (by omega)
  · intro j hj
    unfold addm
    by_cases hj1 : j = p + last
    · subst hj1
      rw [if_pos (by omega), Nat.add_sub_cancel_left, hcancel, Nat.xor_self]
    · rw [if_neg (by omega)]
      exact h.top j (by omega)
  · intro _
    unfold upd
    by_cases hk0 : k = 0
    · subst hk0
      rw [if_pos (by omega), ← hv]
      have hra0 : ra ≠ [] := fun e => by rw [e] at hk; simp at hk
      have hfr : fr (p + last) = co ra (ra.length - 1) := by
        have hs := h.sum (p + last)
        have hz : pc (ra.length - last) fq (co rb) (p + last) = 0 := Pol.xs_zero _ fun i hi => by
          rw [h.low i (by omega), Gf.zero_mul]
          split <;> rfl
        rw [hz, Nat.xor_zero] at hs
        rw [hs]
        congr 1
        omega
      exact Gf.mul_ne _ _ (by rw [hfr]; exact hra hra0) (Gf.quo_ne 1 _ (by omega))
    · rw [if_neg (by omega)]
      exact h.first (by omega)
  · intro j
    have hu : pc (ra.length - last) (upd fq p v) (co rb) j = pc (ra.length - last) fq (co rb) j ^^^ (if p ≤ j then Gf.mul v (co rb (j - p)) else 0) := by
      have e : upd fq p v = fun i => if i = p then fq i ^^^ v else fq i := funext fun i => by
        unfold upd
        by_cases e : i = p
        · subst e
          rw [if_pos rfl, if_pos rfl, hfq0, Nat.zero_xor]
        · rw [if_neg e, if_neg e]
      rw [e]
      exact Pol.pc_update (ra.length - last) fq (co rb) p v j hpn hq hrb hv256
    rw [hu]
    unfold addm
    by_cases h1 : p ≤ j
    · rw [if_pos h1]
      by_cases h2 : j < p + rb.length
      · rw [if_pos ⟨h1, h2⟩, Pol.xor_swap, Nat.xor_self, Nat.xor_zero]
        exact h.sum j
      · rw [if_neg (by omega), Pol.co_out rb (j - p) (by omega), Gf.mul_zero, Nat.xor_zero]
        exact h.sum j
    · rw [if_neg h1, if_neg (by omega), Nat.xor_zero]
      exact h.sum j
  · intro j hj
    unfold addm
    rw [if_neg (by omega)]
    exact h.out j hj

theorem upd_lt {fq : Nat → Nat} {p v : Nat} (h : ∀ i, fq i < 256) (hv : v < 256) (i : Nat) : upd fq p v i < 256 := by
  unfold upd
  split
  · exact hv
  · exact h i
theorem addm_lt' {o t : Nat} {a : List Nat} {F : Nat → Nat} (h : ∀ i, F i < 256) (k i : Nat) : addm o t a F k i < 256 := addm_lt (n := i + 1) (fun j _ => h j) k i (by omega)
theorem divInv_next (ra rb : List Nat) (nq last p inv v : Nat) (ps : List Nat) (fq fr : Nat → Nat) (hnq : ra.length - last = nq) (hl : rb.length = last + 1) (hb0 : co rb last ≠ 0) (hrb : Sm rb) (hra : ra ≠ [] → co ra (ra.length - 1) ≠ 0)
    (hq : ∀ i, fq i < 256) (hr : ∀ j, fr j < 256) (hinv : Gf.quo 1 (co rb last) = inv) (hv : Gf.mul (fr (p + last)) inv = v) (hps : ps.length < nq) (h : ps = downs nq ps.length → DivInv ra rb nq last ps.length fq fr) :
    ps ++ [p] = downs nq (ps ++ [p]).length → DivInv ra rb nq last (ps ++ [p]).length (upd fq p v) (addm p v rb fr (last + 1)) := by
  intro e
  rw [List.length_append, List.length_singleton, downs_succ] at e
  obtain ⟨e1, e2⟩ := List.append_inj' e rfl
  have e3 : p = nq - 1 - ps.length := by simpa using e2
  have hs := divInv_step ra rb last ps.length fq fr hl hb0 hrb hra hq hr (by rw [hnq]; exact h e1) (by rw [hnq]; exact hps)
  rw [hnq, ← e3, hinv, hv, hl] at hs
  rw [List.length_append, List.length_singleton]
  exact hs

/-- What is left, at the end. -/
theorem divInv_end (a b : List Nat) (last : Nat) (fq fr : Nat → Nat) (hl : (trim b).length = last + 1) (h : DivInv (trim a) (trim b) ((trim a).length - last) last ((trim a).length - last) fq fr) :
    trim (tab ((trim a).length - last) fq) = tab ((trim a).length - last) fq ∧ (∀ j, co (Pol.mulP (tab ((trim a).length - last) fq) b) j ^^^ co (trim (tab (trim a).length fr)) j = co a j) ∧
      (trim (tab (trim a).length fr)).length < (trim b).length ∧ (tab ((trim a).length - last) fq).length ≤ a.length := by
  have hta := Pol.trim_len a
  have hco : ∀ j, co (tab (trim a).length fr) j = fr j := fun j => by
    rw [co_tab]
    split
    · rfl
    · exact (h.out j (by omega)).symm
  refine ⟨?_, fun j => ?_, ?_, ?_⟩
  · refine Pol.trim_fix _ ?_
    by_cases hz : (trim a).length - last = 0
    · rw [hz]; exact .inl rfl
    · refine .inr ?_
      rw [tab_len, co_tab, if_pos (by omega)]
      exact h.first (by omega)
  · rw [Pol.co_trim, hco, Pol.co_mulP_of _ _ ((trim a).length - last) j (by rw [tab_len]; exact Nat.le_refl _), ← Pol.co_trim a j, ← h.sum j, Nat.xor_comm]
    congr 1
    refine Pol.xs_congr _ fun i hi => ?_
    rw [co_tab, if_pos hi, Pol.co_trim]
  · rw [hl]
    refine Nat.lt_succ_of_le (Pol.trim_le _ _ fun j hj => ?_)
    rw [hco]
    exact h.top j (by omega)
  · rw [tab_len]; omega
end Go.Proofs.Ytagdialceelggaa
