/-
  An argument that is a slice of points reads as a list of pairs. Conditions: none.
-/
import Derived.Test.YtagdialceelggaaPts
import Derived.ProofKit
import Derived.OpenShut
import Derived.Deep.SlicePairs
namespace Go.Proofs.Ytagdialceelggaa
open Go.RowKit
open Go.ChangeShapes Go.WideShapes Go.ChangeAt
open Pol (px py)

section
variable {H : Type} {enc : TypeId × Value → H} {w : World} {base : Nat} {spare : Nat → Bool} {held : Bool}
theorem open_points {fuel len cap : Nat} {a : Option Addr} {x : DataW H × List MemPlace} (h : DataW.trod enc Try.prog w base spare held fuel 37 [.slice a len cap] = some x) :
    ∃ l : List (Nat × Nat), l.length = len ∧ len ≤ cap ∧ PRd w a l := by
  rcases Go.Deep.open_slice_pairs Try.underlying37 Try.underlying46 (by kernel_rfl) (by kernel_rfl) (by kernel_rfl) (by kernel_rfl) (by kernel_rfl) h with ⟨hcs, _⟩ | ⟨a', len', cap', m, n, V0, V1, D0, D1, P0, P1, hcs, _, hl, _, hm, _, hall⟩
  · simp at hcs
    obtain ⟨rfl, rfl, rfl⟩ := hcs
    exact ⟨[], rfl, Nat.le_refl _, PRd.nil _ _⟩
  · simp at hcs
    obtain ⟨rfl, rfl, rfl⟩ := hcs
    have hlm : len ≤ m := by rw [hm]; split <;> omega
    have each : ∀ i, i < len → ∃ q : Nat × Nat, q.1 < 256 ∧ q.2 < 256 ∧ w.cell? (a'.add (i * 2)) = some (.int .u8 (q.1 : Int)) ∧ w.cell? (a'.add (i * 2 + 1)) = some (.int .u8 (q.2 : Int)) := fun i hi => by
      obtain ⟨c0, c1, t0, t1⟩ := hall i (by omega)
      obtain ⟨x0, e0, _, w0⟩ := DataW.trod_int Try.underlying5 t0
      obtain ⟨x1, e1, _, w1⟩ := DataW.trod_int Try.underlying5 t1
      obtain ⟨y0, rfl, h0⟩ := nat_u8 w0
      obtain ⟨y1, rfl, h1⟩ := nat_u8 w1
      simp only [List.cons.injEq, and_true] at e0 e1
      rw [e0] at c0
      rw [e1] at c1
      exact ⟨(y0, y1), h0, h1, c0, c1⟩
    obtain ⟨q, hq⟩ := Go.Deep.choose_lt each
    have hat : ∀ i, i < len → ((List.range len).map q)[i]? = some (q i) := fun i hi => by rw [List.getElem?_map, List.getElem?_range hi]; rfl
    refine ⟨(List.range len).map q, by simp, hl, fun i => ?_, fun i hi => ?_⟩
    · by_cases hi : i < len
      · unfold px py
        rw [hat i hi]
        exact ⟨(hq i hi).1, (hq i hi).2.1⟩
      · unfold px py
        rw [List.getElem?_eq_none (by simp; omega)]
        exact ⟨by simp, by simp⟩
    · have hi' : i < len := by simpa using hi
      obtain ⟨b, o, spot⟩ := a'
      have hc := (hq i hi').2.2
      have hspot : spot = none := by
        have h0 := (hq 0 (by omega)).2.2.1
        simpa [Addr.add] using World.cell?_spot h0
      subst hspot
      refine ⟨b, o, rfl, ?_, ?_⟩
      · unfold px; rw [hat i hi', ← Addr.add_mid]; exact hc.1
      · unfold py; rw [hat i hi', Nat.add_assoc, ← Addr.add_mid]; exact hc.2
end
end Go.Proofs.Ytagdialceelggaa
