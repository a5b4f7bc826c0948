/-
  Slices of points that read as a list of pairs: what it means, and that it stays while only new blocks are laid. Conditions: none.
-/
import Derived.Test.YtagdialceelggaaSlice
import Derived.Test.YtagdialceelggaaInt
namespace Go.Proofs.Ytagdialceelggaa
open Go.RowKit
open Pol (px py Apart)

/-- From address A on lie the points l. -/
def PRd (w : World) (A : Option Addr) (l : List (Nat × Nat)) : Prop :=
  (∀ i, px l i < 256 ∧ py l i < 256) ∧ ∀ i, i < l.length → ∃ b o, A = some ⟨b, o, none⟩ ∧ w.cell? ⟨b, o + i * 2, none⟩ = some (.int .u8 ((px l i : Nat) : Int)) ∧ w.cell? ⟨b, o + i * 2 + 1, none⟩ = some (.int .u8 ((py l i : Nat) : Int))
theorem PRd.ext {w w' : World} {A : Option Addr} {l : List (Nat × Nat)} (h : PRd w A l) (hx : Ext w w') : PRd w' A l :=
  ⟨h.1, fun i hi => by
    obtain ⟨b, o, e, hc, hd⟩ := h.2 i hi
    exact ⟨b, o, e, (hx.below.cell (p := ⟨b, o + i * 2, none⟩) (block_lt_of_cell hc)).trans hc, (hx.below.cell (p := ⟨b, o + i * 2 + 1, none⟩) (block_lt_of_cell hd)).trans hd⟩⟩
theorem PRd.drewN {w : World} {A : Option Addr} {l : List (Nat × Nat)} (h : PRd w A l) (n : Nat) : PRd (w.drewN n) A l := h
theorem PRd.nil (w : World) (A : Option Addr) : PRd w A [] := ⟨fun i => by simp [px, py], fun i hi => absurd hi (by simp)⟩
/-- Points as cells. -/
def pv (l : List (Nat × Nat)) : List Value := l.flatMap fun p => [Value.int .u8 ((p.1 : Nat) : Int), Value.int .u8 ((p.2 : Nat) : Int)]
theorem pv_at : ∀ (l : List (Nat × Nat)) (i : Nat), i < l.length → (pv l)[i * 2]? = some (.int .u8 ((px l i : Nat) : Int)) ∧ (pv l)[i * 2 + 1]? = some (.int .u8 ((py l i : Nat) : Int))
  | [], i, h => by simp at h
  | p :: l, 0, _ => by simp [pv, px, py]
  | p :: l, i + 1, h => by
    have := pv_at l i (by simpa using h)
    have e : pv (p :: l) = Value.int .u8 ((p.1 : Nat) : Int) :: Value.int .u8 ((p.2 : Nat) : Int) :: pv l := rfl
    rw [e, show (i + 1) * 2 = i * 2 + 1 + 1 from by omega, show i * 2 + 1 + 1 + 1 = (i * 2 + 1) + 1 + 1 from rfl]
    simp only [List.getElem?_cons_succ]
    exact ⟨by rw [this.1]; simp [px], by rw [this.2]; simp [py]⟩
theorem prd_lit (w : World) (l : List (Nat × Nat)) (h : Pol.PSm l) : PRd (w.alloc (.cells (pv l).toArray 46)) (some ⟨w.heap.size, 0, none⟩) l :=
  ⟨h, fun i hi => ⟨w.heap.size, 0, rfl, by
    rw [cell_of_row _ _ _ _ _ _ (heap_alloc_new w _), Nat.zero_add]
    simpa using (pv_at l i hi).1, by
    rw [cell_of_row _ _ _ _ _ _ (heap_alloc_new w _), Nat.zero_add]
    simpa using (pv_at l i hi).2⟩⟩
end Go.Proofs.Ytagdialceelggaa
