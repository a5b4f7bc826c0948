/-
  Bytes that a call makes and fills one by one: a block as a function of the place. Conditions: none.
-/
import Derived.Test.YtlncelfacfflhaaAppend
namespace Go.Proofs.Ytlncelfacfflhaa
open Go.RowKit
open Pol (co Sm)

/-- n bytes, the one at place i being f i: as cells, and as a list. -/
def bt (n : Nat) (f : Nat → Nat) : Array Value := Array.ofFn (n := n) fun i => Value.int .u8 ((f i.val : Nat) : Int)
def tab (n : Nat) (f : Nat → Nat) : List Nat := (List.range n).map f
def upd (f : Nat → Nat) (k v : Nat) : Nat → Nat := fun i => if i = k then v else f i
theorem bt_size (n : Nat) (f : Nat → Nat) : (bt n f).size = n := by simp [bt]
theorem bt_at (n : Nat) (f : Nat → Nat) (i : Nat) (h : i < n) : (bt n f)[i]? = some (.int .u8 ((f i : Nat) : Int)) := by simp [bt, h]
theorem bt_set (n : Nat) (f : Nat → Nat) (k v : Nat) : (bt n f).setIfInBounds k (.int .u8 (v : Int)) = bt n (upd f k v) := by
  apply Array.ext (by simp [bt])
  intro i h1 h2
  simp only [bt, Array.size_setIfInBounds, Array.size_ofFn] at h1
  rw [Array.getElem_setIfInBounds (by simpa [bt] using h1)]
  by_cases e : k = i
  · subst e; simp [bt, upd]
  · rw [if_neg e]
    simp only [bt, Array.getElem_ofFn, upd]
    rw [if_neg (fun h => e h.symm)]
theorem bt_made (n : Nat) : madeCells #[.int .u8 0] n = bt n (fun _ => 0) := by
  apply Array.ext (by simp [bt, size_madeCells])
  intro i h1 h2
  simp [madeCells, bt, Nat.mod_one]
theorem tab_len (n : Nat) (f : Nat → Nat) : (tab n f).length = n := by simp [tab]
theorem co_tab (n : Nat) (f : Nat → Nat) (i : Nat) : co (tab n f) i = if i < n then f i else 0 := by
  unfold co tab
  rw [List.getElem?_map]
  by_cases h : i < n
  · rw [if_pos h, List.getElem?_range h]; rfl
  · rw [if_neg h, List.getElem?_eq_none (by simp; omega)]; rfl
theorem tab_sm (n : Nat) (f : Nat → Nat) (h : ∀ i, i < n → f i < 256) : Sm (tab n f) := fun i => by
  rw [co_tab]
  split
  · exact h i (by assumption)
  · omega
/-- Block g holds just these n bytes. -/
def Blk (w : World) (g n : Nat) (f : Nat → Nat) : Prop := w.heap[g]? = some (.cells (bt n f) 5 (0, 0))
theorem Blk.cell {w : World} {g n : Nat} {f : Nat → Nat} (h : Blk w g n f) (i : Nat) (hi : i < n) : w.cell? ⟨g, i, none⟩ = some (.int .u8 ((f i : Nat) : Int)) := by
  rw [cell_of_row w g i _ _ _ h, bt_at n f i hi]
theorem Blk.frozen {w : World} {g n : Nat} {f : Nat → Nat} (h : Blk w g n f) (i : Nat) : w.frozen? ⟨g, i, none⟩ = false := frozen_of_row w g i _ _ h
theorem Blk.store {w : World} {g n : Nat} {f : Nat → Nat} (h : Blk w g n f) (k v : Nat) : Blk (w.setCell ⟨g, k, none⟩ (.int .u8 (v : Int))) g n (upd f k v) := by
  unfold Blk
  rw [heap_setCell_same w g k _ _ _ h, bt_set]
theorem Blk.drewN {w : World} {g n : Nat} {f : Nat → Nat} (h : Blk w g n f) (m : Nat) : Blk (w.drewN m) g n f := h
theorem Blk.new (w : World) (n : Nat) (f : Nat → Nat) : Blk (w.alloc (.cells (bt n f) 5)) w.heap.size n f := heap_alloc_new w _
theorem Blk.congr {w : World} {g n : Nat} {f f' : Nat → Nat} (h : Blk w g n f) (hf : ∀ i, i < n → f i = f' i) : Blk w g n f' := by
  have e : bt n f = bt n f' := by
    apply Array.ext (by simp [bt])
    intro i h1 h2
    have hi : i < n := by simpa [bt] using h1
    simp [bt, hf i hi]
  unfold Blk
  rw [← e]
  exact h
theorem Blk.reads {w : World} {g n : Nat} {f : Nat → Nat} (h : Blk w g n f) (hs : ∀ i, i < n → f i < 256) : Rd w (some ⟨g, 0, none⟩) (tab n f) :=
  ⟨tab_sm n f hs, fun i hi => ⟨g, 0, rfl, by
    rw [tab_len] at hi
    rw [Nat.zero_add, h.cell i hi, co_tab, if_pos hi]⟩⟩
theorem Blk.lt {w : World} {g n : Nat} {f : Nat → Nat} (h : Blk w g n f) : g < w.heap.size := by
  rcases Nat.lt_or_ge g w.heap.size with hlt | hge
  · exact hlt
  · unfold Blk at h; rw [Array.getElem?_eq_none hge] at h; cases h
theorem Blk.ext {w w' : World} {g n : Nat} {f : Nat → Nat} (h : Blk w g n f) (hx : Ext w w') : Blk w' g n f := (hx.below.block g h.lt).trans h

/-- make([]byte, n). -/
theorem run_make_u8 (n : Nat) (hn : n ≤ 1099511627776) (w : World) :
    (Instr.makeSlice 27 (.int .i64 (n : Int)) (.int .i64 (n : Int))).run Try.prog w = .ok (.slice (some ⟨w.heap.size, 0, none⟩) n n) (w.alloc (.cells (bt n fun _ => 0) 5)) := by
  obtain ⟨i0, hi, hz0, hz1, hz2⟩ := info_parts u8_info
  have h := run_make (P := Try.prog) w 27 5 i0 (.int .u8 0) Try.underlying27 hi hz0 .i64 .i64 n n (by omega) (by omega) (by rw [hz2]; omega) (by omega)
  simp only [Int.toNat_natCast, hz1, Nat.mul_one] at h
  rw [h, ← bt_made]
  rfl
end Go.Proofs.Ytlncelfacfflhaa
