/-
  Rows that lie each in a block of its own and may be written: a number is stored, two rows change places, other blocks are written. Conditions: the rows are not empty.
-/
import Derived.Test.YtlncelfacfflhaaCells
import Derived.Test.YtlncelfacfflhaaRowSl
import Derived.Test.YtlncelfacfflhaaLRows
namespace Go.Proofs.Ytlncelfacfflhaa
open Go.RowKit
open Pol (co Sm)

/-- Block g's first m cells are slices of N bytes, the i-th at the start of block blk i; no two share a block. -/
structure Mat (w : World) (g m N : Nat) (blk : Nat → Nat) (F : Nat → Nat → Nat) : Prop where
  row : ∀ i, i < m → ∃ c, w.cell? ⟨g, i, none⟩ = some (.slice (some ⟨blk i, 0, none⟩) N c) ∧ w.frozen? ⟨g, i, none⟩ = false ∧ N ≤ c
  has : ∀ i, i < m → Cells w (blk i) N (F i)
  one : ∀ i j, i < m → j < m → blk i = blk j → i = j
  off : ∀ i, i < m → blk i ≠ g
theorem Mat.congr {w : World} {g m N : Nat} {blk : Nat → Nat} {F F' : Nat → Nat → Nat} (h : Mat w g m N blk F) (hf : ∀ i, i < m → ∀ k, k < N → F i k = F' i k) : Mat w g m N blk F' :=
  ⟨h.row, fun i hi => (h.has i hi).congr (hf i hi), h.one, h.off⟩
theorem Mat.drewN {w : World} {g m N : Nat} {blk : Nat → Nat} {F : Nat → Nat → Nat} (h : Mat w g m N blk F) (k : Nat) : Mat (w.drewN k) g m N blk F := ⟨h.row, fun i hi => (h.has i hi).drewN k, h.one, h.off⟩
theorem Mat.ext {w w' : World} {g m N : Nat} {blk : Nat → Nat} {F : Nat → Nat → Nat} (h : Mat w g m N blk F) (hx : Ext w w') : Mat w' g m N blk F :=
  ⟨fun i hi => by
    obtain ⟨c, h1, h2, h3⟩ := h.row i hi
    exact ⟨c, (hx.below.cell (p := ⟨g, i, none⟩) (block_lt_of_cell h1)).trans h1, (hx.below.frozen (p := ⟨g, i, none⟩) (block_lt_of_cell h1)).trans h2, h3⟩, fun i hi => (h.has i hi).ext hx, h.one, h.off⟩
theorem Mat.keep {w w' : World} {g m N : Nat} {blk : Nat → Nat} {F : Nat → Nat → Nat} {row : Option Nat} (h : Mat w g m N blk F) (hg : w.grownBy w' row) (h0 : some g ≠ row) (hne : ∀ i, i < m → some (blk i) ≠ row) : Mat w' g m N blk F :=
  ⟨fun i hi => by
    obtain ⟨c, h1, h2, h3⟩ := h.row i hi
    exact ⟨c, hg.cell h1 h0, (World.frozen?_of_block (a := ⟨g, i, none⟩) (hg.block g (block_lt_of_cell h1) h0)).trans h2, h3⟩, fun i hi => (h.has i hi).keep hg (hne i hi), h.one, h.off⟩
theorem Mat.lt {w : World} {g m N : Nat} {blk : Nat → Nat} {F : Nat → Nat → Nat} (h : Mat w g m N blk F) (hN : 0 < N) (i : Nat) (hi : i < m) : blk i < w.heap.size := block_lt_of_cell ((h.has i hi) 0 hN).1
/-- What one row's cells become, while all else stays. -/
theorem Mat.turn {w w' : World} {g m N : Nat} {blk : Nat → Nat} {F : Nat → Nat → Nat} (h : Mat w g m N blk F) (i : Nat) (hi : i < m) (f : Nat → Nat) (hg : w.grownBy w' (some (blk i))) (hc : Cells w' (blk i) N f) : Mat w' g m N blk (fun r => if r = i then f else F r) :=
  ⟨fun j hj => by
    obtain ⟨c, h1, h2, h3⟩ := h.row j hj
    have h0 : some g ≠ some (blk i) := fun e => h.off i hi (by injection e with e; exact e.symm)
    exact ⟨c, hg.cell h1 h0, (World.frozen?_of_block (a := ⟨g, j, none⟩) (hg.block g (block_lt_of_cell h1) h0)).trans h2, h3⟩,
   fun j hj => by
    by_cases e : j = i
    · subst e
      rw [if_pos rfl]
      exact hc
    · rw [if_neg e]
      exact (h.has j hj).keep hg (fun e' => e (h.one j i hj hi (by injection e'))), h.one, h.off⟩
theorem Mat.store {w : World} {g m N : Nat} {blk : Nat → Nat} {F : Nat → Nat → Nat} (h : Mat w g m N blk F) (i : Nat) (hi : i < m) (k v : Nat) :
    Mat (w.setCell ⟨blk i, k, none⟩ (.int .u8 (v : Int))) g m N blk (fun r => if r = i then upd (F i) k v else F r) :=
  h.turn i hi _ (grown_set w (blk i) k _) ((h.has i hi).store k v)
/-- The number that stands for i when i and j change places. -/
def swp (i j r : Nat) : Nat := if r = i then j else if r = j then i else r
theorem swp_lt {i j m r : Nat} (hi : i < m) (hj : j < m) (hr : r < m) : swp i j r < m := by
  unfold swp
  split
  · exact hj
  · split
    · exact hi
    · exact hr
theorem swp_one {i j r s : Nat} (h : swp i j r = swp i j s) : r = s := by
  unfold swp at h
  split at h <;> split at h <;> (try split at h) <;> (try split at h) <;> omega
/-- Two rows have changed places: both cells are stored, one behind the other. -/
theorem Mat.swap {w : World} {g m N : Nat} {blk : Nat → Nat} {F : Nat → Nat → Nat} (h : Mat w g m N blk F) (i j : Nat) (hi : i < m) (hj : j < m) (ci cj : Nat) (hci : N ≤ ci) (hcj : N ≤ cj) :
    Mat ((w.setCell ⟨g, i, none⟩ (.slice (some ⟨blk j, 0, none⟩) N cj)).setCell ⟨g, j, none⟩ (.slice (some ⟨blk i, 0, none⟩) N ci)) g m N (fun r => blk (swp i j r)) (fun r => F (swp i j r)) :=
  ⟨fun r hr => by
    obtain ⟨c, h1, h2, h3⟩ := h.row r hr
    by_cases ej : r = j
    · subst ej
      have hs : (w.setCell ⟨g, i, none⟩ (.slice (some ⟨blk r, 0, none⟩) N cj)).cell? ⟨g, r, none⟩ ≠ none := by
        by_cases e : i = r
        · subst e; rw [World.cell?_setCell_same' _ _ _ (by rw [h1]; rfl)]; simp
        · rw [World.cell?_setCell_other _ _ _ _ (fun h => e (by cases h; rfl)), h1]; simp
      refine ⟨ci, ?_, by rw [World.frozen?_setCell, World.frozen?_setCell]; exact h2, hci⟩
      rw [World.cell?_setCell_same' _ _ _ (by
        cases hq : (w.setCell ⟨g, i, none⟩ (.slice (some ⟨blk r, 0, none⟩) N cj)).cell? ⟨g, r, none⟩ with
        | none => exact absurd hq hs
        | some _ => rfl)]
      unfold swp
      by_cases e : r = i
      · rw [if_pos e, e]
      · rw [if_neg e, if_pos rfl]
    · rw [World.cell?_setCell_other _ _ _ _ (fun h => ej (by cases h; rfl))]
      by_cases ei : r = i
      · subst ei
        refine ⟨cj, ?_, by rw [World.frozen?_setCell, World.frozen?_setCell]; exact h2, hcj⟩
        rw [World.cell?_setCell_same' _ _ _ (by rw [h1]; rfl)]
        unfold swp
        rw [if_pos rfl]
      · refine ⟨c, ?_, by rw [World.frozen?_setCell, World.frozen?_setCell]; exact h2, h3⟩
        rw [World.cell?_setCell_other _ _ _ _ (fun h => ei (by cases h; rfl)), h1]
        unfold swp
        rw [if_neg ei, if_neg ej],
   fun r hr => by
    have hs := swp_lt hi hj hr
    have h0 : some (blk (swp i j r)) ≠ some g := fun e => h.off _ hs (by injection e)
    exact ((h.has _ hs).keep (grown_set _ g i _) h0).keep (grown_set _ g j _) h0,
   fun r s hr hs e => swp_one (h.one _ _ (swp_lt hi hj hr) (swp_lt hi hj hs) e),
   fun r hr => h.off _ (swp_lt hi hj hr)⟩
/-- As a slice of rows. -/
theorem Mat.rows {w : World} {g m N : Nat} {blk : Nat → Nat} {F : Nat → Nat → Nat} (h : Mat w g m N blk F) (hs : ∀ i, i < m → ∀ k, k < N → F i k < 256) : LRows w g m N F (fun b => ∀ i, i < m → b ≠ blk i) := fun i hi => by
  obtain ⟨c, h1, h2, h3⟩ := h.row i hi
  refine ⟨some ⟨blk i, 0, none⟩, c, h1, h2, h3, (h.has i hi).reads (hs i hi), fun b o e _ hx => hx i hi ?_⟩
  injection e with e
  injection e with e _
  exact e.symm
end Go.Proofs.Ytlncelfacfflhaa
