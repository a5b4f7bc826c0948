/-
  A list, times an element, added to bytes from some place on: as a function of the place; a call that turns a block's bytes so. Conditions: none.
-/
import Derived.Test.YtlncelfacfflhaaCells
namespace Go.Proofs.Ytlncelfacfflhaa
open Go.RowKit
open Pol (co Sm)

/-- From place o on the polynomial, times t, is added, k places of it. -/
def addm (o t : Nat) (a : List Nat) (F : Nat → Nat) (k i : Nat) : Nat := if o ≤ i ∧ i < o + k then F i ^^^ Gf.mul t (co a (i - o)) else F i
theorem addm_lt {o t : Nat} {a : List Nat} {F : Nat → Nat} {n : Nat} (h : ∀ i, i < n → F i < 256) (k i : Nat) (hi : i < n) : addm o t a F k i < 256 := by
  unfold addm
  split
  · exact Gf.xor_lt _ _ (h i hi) (Gf.mul_lt _ _)
  · exact h i hi
theorem addm_zero (o t : Nat) (a : List Nat) (F : Nat → Nat) (i : Nat) : F i = addm o t a F 0 i := by
  unfold addm; rw [if_neg (by omega)]
theorem addm_step (o t : Nat) (a : List Nat) (F : Nat → Nat) (k i : Nat) : upd (addm o t a F k) (o + k) (addm o t a F k (o + k) ^^^ Gf.mul t (co a k)) i = addm o t a F (k + 1) i := by
  unfold upd
  by_cases h : i = o + k
  · subst h
    rw [if_pos rfl]
    unfold addm
    rw [if_neg (by omega), if_pos (by omega), Nat.add_sub_cancel_left]
  · rw [if_neg h]
    unfold addm
    by_cases h' : o ≤ i ∧ i < o + k
    · rw [if_pos h', if_pos (by omega)]
    · rw [if_neg h', if_neg (by omega)]

/-- Nothing is handed back; block g's first n cells are F' now, all else is as it was. -/
def Turns (g n : Nat) (F' : Nat → Nat) (w : World) (e : Ending) (w' : World) : Prop := (∃ v, e = .returned v) ∧ Cells w' g n F' ∧ w.grownBy w' (some g)
end Go.Proofs.Ytlncelfacfflhaa
