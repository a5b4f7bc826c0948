/-
  Part 4 of the texts that the seat's proofs stand on; each part of it begins with its own sentence and conditions. Conditions: those that each theorem names.
-/
import Derived.Test.YtfbnckecfapakaaTornPack3
import Derived.Deep.Slices

/-
  An argument that is a slice of slices of bytes reads as a list of rows. Conditions: none.
-/
namespace Go.Proofs.Ytfbnckecfapakaa
open Go.RowKit
open Go.ChangeShapes Go.WideShapes Go.ChangeAt
open Pol (co Sm)

/-- Rows as they come in. -/
def ARd (w : World) (A : Option Addr) (rows : List (List Nat)) : Prop := RRd w A rows ∧ rows.length ≤ maxLen
section
variable {H : Type} {enc : TypeId × Value → H} {w : World} {base : Nat} {spare : Nat → Bool} {held : Bool}
theorem open_rows {fuel len cap : Nat} {a : Option Addr} {x : DataW H × List MemPlace} (h : DataW.trod enc Try.prog w base spare held fuel 35 [.slice a len cap] = some x) :
    ∃ l : List (List Nat), l.length = len ∧ len ≤ cap ∧ ARd w a l := by
  rcases Go.Deep.open_slice1 Try.underlying35 (by kernel_rfl) h with ⟨hcs, _⟩ | ⟨a', len', cap', m, n, V, D, Pl, hcs, _, hl, hmax, hm, _, hall⟩
  · simp at hcs
    obtain ⟨rfl, rfl, rfl⟩ := hcs
    exact ⟨[], rfl, Nat.le_refl _, RRd.nil _ _, Nat.zero_le _⟩
  · simp at hcs
    obtain ⟨rfl, rfl, rfl⟩ := hcs
    have hlm : len ≤ m := by rw [hm]; split <;> omega
    have each : ∀ i, i < len → ∃ q : List Nat, ∃ B c, w.cell? (a'.add i) = some (.slice B q.length c) ∧ q.length ≤ c ∧ Rd w B q := fun i hi => by
      obtain ⟨hc, ht⟩ := hall i (by omega)
      obtain ⟨B, nb, cb, hv⟩ : ∃ B nb cb, V i = .slice B nb cb := by
        rcases Go.Deep.open_slice Try.underlying22 ht with ⟨e, _⟩ | ⟨a2, l2, c2, _, _, _, _, e, _⟩
        · exact ⟨none, 0, 0, by simpa using e⟩
        · exact ⟨some a2, l2, c2, by simpa using e⟩
      rw [hv] at ht hc
      obtain ⟨q, hq, hqc, hqr⟩ := open_bytes ht
      exact ⟨q, B, cb, by rw [hq]; exact hc, by rw [hq]; exact hqc, hqr⟩
    obtain ⟨q, hq⟩ := Go.Deep.choose_lt each
    have hat : ∀ i, i < len → ro ((List.range len).map q) i = q i := fun i hi => by unfold ro; rw [List.getElem?_map, List.getElem?_range hi]; rfl
    refine ⟨(List.range len).map q, by simp, hl, fun i hi => ?_, by rw [List.length_map, List.length_range]; omega⟩
    have hi' : i < len := by simpa using hi
    obtain ⟨B, c, h1, h2, h3⟩ := hq i hi'
    obtain ⟨b, o, spot⟩ := a'
    have hspot : spot = none := by
      obtain ⟨_, _, h0, _⟩ := hq 0 (by omega)
      simpa [Addr.add] using World.cell?_spot h0
    subst hspot
    rw [hat i hi']
    exact ⟨b, o, B, c, rfl, by rw [← Addr.add_mid]; exact h1, h2, h3⟩
end
end Go.Proofs.Ytfbnckecfapakaa
